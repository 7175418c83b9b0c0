"""Products of names with exponents as texts."""

from anyshape.decimals import decimal_text, read_decimal
from anyshape.numbers import is_name


def exponents_text(exponents):
    """The text of the product of the names, each raised to its exponent."""
    if len(exponents) == 0:
        return "1"
    return "*".join([_power_text(name, exponents[name]) for name in sorted(exponents)])


def read_exponents(text):
    """The dict of exponents with this text, or None if there is none."""
    if text == "1":
        return {}
    exponents = {}
    for part in text.split("*"):
        name, caret, digits = part.partition("^")
        exponent = 1 if caret == "" else read_decimal(digits)
        if not is_name(name) or exponent is None or exponent == 0:
            return None
        exponents[name] = exponent
    # Only one text is right: wrong sequences, repeated names and needless signs end here.
    return exponents if exponents_text(exponents) == text else None


def _power_text(name, exponent):
    """The text of one name with its exponent."""
    return name if exponent == 1 else name + "^" + decimal_text(exponent)
