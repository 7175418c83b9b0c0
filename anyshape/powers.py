"""Powers of integers, and products of powers told by coprime bases."""

from math import gcd


def raised(base, count):
    """The base to the power of a count."""
    power = 1
    while count > 0:
        if count % 2 == 1:
            power = power * base
        count = count // 2
        if count > 0:
            base = base * base
    return power


def orders(exponents, numbers):
    """The product of the powers of the numbers, as pairs (base, exponent).

    The bases are above 1 and pairwise coprime. So the product is an integer
    exactly if no exponent is below 0, and it is 1 exactly if all of them are 0;
    this is seen without calculating powers, which may be too long to write.
    """
    names = list(exponents)
    pairs = []
    for base in coprime_bases([numbers[name] for name in names]):
        parts = [exponents[name] * order_in(numbers[name], base) for name in names]
        pairs.append((base, sum(parts)))
    return pairs


def coprime_bases(numbers):
    """Pairwise coprime integers above 1, of which each number is a product of powers."""
    bases = []
    for number in numbers:
        bases = _refined(bases, number)
    return bases


def order_in(number, base):
    """How often the base divides the number."""
    order = 0
    while number % base == 0:
        number = number // base
        order = order + 1
    return order


def _refined(bases, number):
    """Coprime bases for the old bases and one more number."""
    found = list(bases)
    pending = [number]
    while pending:
        part = pending.pop()
        at = _sharing(found, part)
        if at is None:
            if part > 1:
                found.append(part)
        else:
            base = found.pop(at)
            common = gcd(base, part)
            pending.extend([base // common, common, part // common])
    return found


def _sharing(bases, number):
    """The position of the first base that has a divisor above 1 in common with the number."""
    for at, base in enumerate(bases):
        if gcd(base, number) > 1:
            return at
    return None
