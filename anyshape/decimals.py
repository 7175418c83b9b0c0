"""Integers of any length as decimal texts."""

DIGITS = "0123456789"
# Python refuses to write integers of some thousand digits at once.
CHUNK_DIGITS = 60
CHUNK = 10 ** 60


def decimal_text(number):
    """The integer in decimal, with a minus if it is below 0."""
    if number < 0:
        return "-" + decimal_text(-number)
    parts = []
    while number >= CHUNK:
        number, low = divmod(number, CHUNK)
        parts.append(str(low).zfill(CHUNK_DIGITS))
    parts.append(str(number))
    return "".join(parts[::-1])


def read_decimal(text):
    """The integer of digits, perhaps behind a minus, or None for another text."""
    digits = text.removeprefix("-")
    if digits == "" or any([digit not in DIGITS for digit in digits]):
        return None
    number = 0
    for digit in digits:
        number = number * 10 + int(digit)
    return -number if text.startswith("-") else number
