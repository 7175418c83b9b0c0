"""Texts of programs, books, facts and goals."""

from anyshape.book import book_of
from anyshape.errors import InvalidText
from anyshape.goaltexts import goal_or_none
from anyshape.linetexts import fact_or_none, input_text, line_text
from anyshape.readers import BookReader, ProgramReader, read_lines


def program_text(program):
    """The text of a program."""
    lines = [input_text(value) for value in program.inputs()] + _fact_texts(program.facts())
    return _text_of(lines + [line_text(line) for line in program.lines()])


def book_text(book):
    """The text of a book."""
    text = _text_of(_fact_texts(book.facts()))
    for name in book.names():
        program = book.program_named(name)
        text = text + _text_of([f"program {name}"]) + plain_text(program)
    return text


def plain_text(program):
    """The text of a program without its facts."""
    lines = [input_text(value) for value in program.inputs()]
    return _text_of(lines + [line_text(line) for line in program.lines()])


def read_program(text):
    """The program with this text."""
    return _read_whole(ProgramReader(), text)


def read_plain_program(text):
    """The program without facts that has this text."""
    return _read_whole(ProgramReader((), False), text)


def read_book(text):
    """The book with this text, without deeds."""
    reader = BookReader()
    count = read_lines(reader, text)
    programs = reader.made_programs()
    if programs is None:
        raise InvalidText(count + 1)
    return book_of(reader.facts(), programs)


def read_fact(text):
    """The fact with this text."""
    return _read_one(text, fact_or_none)


def read_goal(text):
    """The goal with this text."""
    return _read_one(text, goal_or_none)


def _read_one(text, reads):
    """What a function reads in a text of a single line."""
    if not isinstance(text, str):
        raise InvalidText(0)
    found = reads(text)
    if found is None:
        raise InvalidText(1)
    return found


def _read_whole(reader, text):
    """The program that a reader reads in a text."""
    count = read_lines(reader, text)
    program = reader.made_program()
    if program is None:
        raise InvalidText(count + 1)
    return program


def _fact_texts(facts):
    """The list of the lines of text of the facts."""
    return [f"fact {fact}" for fact in facts]


def _text_of(lines):
    """The text of these lines, each with a line feed."""
    return "".join([line + "\n" for line in lines])
