"""Terms: how cells come about from the cells of inputs."""

from anyshape.decimals import decimal_text
from anyshape.errors import InvalidTerm, InvalidTerms, InvalidWord
from anyshape.kinds import is_count, is_list
from anyshape.lines import MOST_JOINED, WORDS
from anyshape.numbers import is_name


def is_term(value):
    """Whether any value is a term, with words that are put together."""
    if not isinstance(value, tuple) or len(value) < 2 or not isinstance(value[0], str):
        return False
    if value[0] == "in":
        return len(value) == 3 and is_name(value[1]) and is_count(value[2])
    terms = value[-1]
    if not isinstance(terms, tuple) or not all([is_term(term) for term in terms]):
        return False
    if value[0] == "let":
        return len(value) == 3 and is_name(value[1]) and 1 <= len(terms) <= MOST_JOINED
    return value[0] in WORDS and len(value) == 2 and len(terms) > 1 and word_over(value[0], terms) == value


def put_together(word, terms):
    """The term of a word over a list of one or more terms."""
    if not isinstance(word, str) or word not in WORDS:
        raise InvalidWord(word)
    if not is_list(terms) or len(terms) == 0:
        raise InvalidTerms(None)
    for position, term in enumerate(terms):
        if not is_term(term):
            raise InvalidTerms(position)
    return word_over(word, terms)


def word_over(word, terms):
    """The term of a word over one or more terms that are right."""
    inner = []
    for term in terms:
        inner.extend(term[1] if term[0] == word else (term,))
    inner = sorted(inner)
    if word != "sum":
        inner = [term for at, term in enumerate(inner) if at == 0 or inner[at - 1] != term]
    return inner[0] if len(inner) == 1 else (word, tuple(inner))


def reads_of(term):
    """The sorted list of the tuples (input, number) of the cells in a term."""
    check_term(term)
    return sorted(set(_reads_in(term)))


def term_text(term):
    """The text of a term."""
    check_term(term)
    return _text_of(term)


def check_term(value):
    """Raise unless the value is a term."""
    if not is_term(value):
        raise InvalidTerm(value)


def value_of(term, contents, meanings):
    """The integer that a term stands for, with contents of inputs and meanings of letters."""
    if term[0] == "in":
        return contents[term[1]][term[2]]
    values = [value_of(part, contents, meanings) for part in term[-1]]
    if term[0] == "let":
        meaning = meanings[term[1]]
        return meaning(*values)
    if term[0] == "sum":
        return sum(values)
    return max(values) if term[0] == "greatest" else min(values)


def _reads_in(term):
    """The list of the cells of inputs in a term, from left to right."""
    if term[0] == "in":
        return [term[1:]]
    return [read for part in term[-1] for read in _reads_in(part)]


def _text_of(term):
    """The text of a term that is right."""
    if term[0] == "in":
        return f"{term[1]}[{decimal_text(term[2])}]"
    word = term[1] if term[0] == "let" else term[0]
    inner = ", ".join([_text_of(part) for part in term[-1]])
    return f"{word}({inner})"
