"""Lines of texts of programs, one for each part of a program.

A part is a tuple (kind, value): an input, a fact, or a line of a program.
"""

from anyshape.decimals import decimal_text, read_decimal
from anyshape.errors import InvalidSize, InvalidText
from anyshape.facts import Divides, Equals
from anyshape.sizes import Size

# What follows the array that is read: n a number, s a size, a capital as many of them as there are, a an array.
FORMS = {
    "merge": "nn",
    "split": "nS",
    "permute": "N",
    "turn": "n",
    "pick": "n",
    "spread": "ns",
    "drop": "n",
    "cells": "A",
    "sum": "N",
    "greatest": "N",
    "least": "N",
}


def input_text(value):
    """The line of text of an input, without its line feed."""
    name, axes = value
    return " ".join(["input", name] + [str(size) for size in axes])


def line_text(line):
    """The line of text of a line of a program, without its line feed."""
    words = [line[0], "=", line[1], line[2]]
    for part in line[3:]:
        words.extend([str(one) for one in (part if isinstance(part, tuple) else (part,))])
    return " ".join(words)


def read_part(text):
    """The part of a program that a line of text tells, or None if there is none.

    An input or a line may have None in place of what cannot be read, and is not right then.
    """
    words = text.split(" ")
    if len(words) > 1 and words[1] == "=":
        return "line", _read_line(words)
    if words[0] == "fact":
        fact = fact_or_none(text.removeprefix("fact "))
        return None if fact is None else ("fact", fact)
    if words[0] == "input" and len(words) > 1:
        return "input", (words[1], tuple([size_or_none(word) for word in words[2:]]))
    return None


def size_or_none(text):
    """The Size with this text, or None."""
    try:
        return Size.read(text)
    except InvalidText:
        return None


def fact_or_none(text):
    """The fact with this text, or None."""
    words = text.split(" ")
    if len(words) != 3 or words[1] not in ("|", "="):
        return None
    one, other = size_or_none(words[0]), size_or_none(words[2])
    try:
        return Divides(one, other) if words[1] == "|" else Equals(one, other)
    except InvalidSize:
        return None


def number_or_none(text):
    """The integer of at least 0 that is written so in decimal, or None."""
    number = read_decimal(text)
    # Only one text is right: needless zeros and signs end here.
    return number if number is not None and number >= 0 and decimal_text(number) == text else None


def _read_line(words):
    """The line of a program with these words, with None in place of those that cannot be read, or None."""
    if len(words) < 4 or words[2] not in FORMS:
        return None
    made, _, word, read, *rest = words
    parts = [made, word, read]
    for letter in FORMS[word]:
        many = len(rest) if letter.isupper() else min(len(rest), 1)
        values = [_read_word(letter, one) for one in rest[:many]]
        if letter.islower() and many == 0:
            return None
        parts.append(tuple(values) if letter.isupper() else values[0])
        rest = rest[many:]
    return tuple(parts) if len(rest) == 0 else None


def _read_word(letter, text):
    """What a word stands for, by the letter of its form, or None."""
    if letter in "nN":
        return number_or_none(text)
    return size_or_none(text) if letter in "sS" else text
