"""Goals as texts."""

from anyshape.errors import InvalidText
from anyshape.failures import TooMany
from anyshape.goals import MOST_DEPTH, Both, Either
from anyshape.linetexts import fact_or_none


def goal_or_none(text, depth=MOST_DEPTH):
    """The goal with this text, of at most so great a depth, or None."""
    for word in ("both", "either"):
        if text.startswith(word + "(") and text.endswith(")"):
            # So deep texts end here, however deep they are.
            if depth == 0:
                return None
            inner = text[len(word) + 1:-1]
            goals = [goal_or_none(part, depth - 1) for part in _parts_of(inner)]
            return None if any([goal is None for goal in goals]) else _joined(word, goals)
    return fact_or_none(text)


def _parts_of(text):
    """The list of the texts between which commas stand outside of all brackets."""
    if text == "":
        return []
    parts = []
    level = 0
    for piece in text.split(", "):
        if level == 0:
            parts.append(piece)
        else:
            parts[-1] = parts[-1] + ", " + piece
        level = level + piece.count("(") - piece.count(")")
    return parts


def _joined(word, goals):
    """Both or either of the goals, or None if they are too many."""
    try:
        return Both(*goals) if word == "both" else Either(*goals)
    except TooMany:
        return None
