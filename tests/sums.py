"""Facts, goals, whys and againsts judged by sums of exponents that are made here."""

import itertools
import random

from anyshape.facts import Divides, Equals
from anyshape.goals import Both, Either
from anyshape.sizes import Size


def size(text):
    """The Size with this text, its names in any sequence."""
    return Size.product(*map(Size.read, text.split("*")))


def fact(text):
    """The fact with this text."""
    for sign, kind in ((" | ", Divides), (" = ", Equals)):
        if sign in text:
            one, other = text.split(sign)
            return kind(size(one), size(other))
    raise AssertionError(text)


def facts(*texts):
    """The list of the facts with these texts."""
    return [fact(text) for text in texts]


def row(of_fact):
    """The exponents of the second size less those of the first one."""
    one, other = of_fact.one.exponents(), of_fact.other.exponents()
    return {name: other.get(name, 0) - one.get(name, 0) for name in sorted({*one, *other})}


def keeps(point, of_fact):
    """Whether the point keeps the fact."""
    total = sum(factor * point.get(name, 0) for name, factor in row(of_fact).items())
    return total == 0 if isinstance(of_fact, Equals) else total >= 0


def holds(goal, points):
    """Whether the goal holds at the points."""
    if isinstance(goal, Both):
        return all(holds(part, points) for part in goal.goals())
    if isinstance(goal, Either):
        return any(holds(part, points) for part in goal.goals())
    return all(keeps(point, goal) for point in points)


def holds_at(goal, numbers):
    """Whether the goal holds at the numbers."""
    if isinstance(goal, Both):
        return all(holds_at(part, numbers) for part in goal.goals())
    if isinstance(goal, Either):
        return any(holds_at(part, numbers) for part in goal.goals())
    one, other = value(goal.one, numbers), value(goal.other, numbers)
    return one == other if isinstance(goal, Equals) else other % one == 0


def value(of_size, numbers):
    """The value of a whole Size."""
    total = 1
    for name, exponent in of_size.exponents().items():
        total *= numbers[name] ** exponent
    return total


def is_right_why(given, goal, told):
    """Whether the why shows that the goal follows."""
    if isinstance(goal, Either):
        return is_right_why(given, goal.goals()[told[0]], told[1])
    if isinstance(goal, Both):
        return len(told) == len(goal) and all(map(is_right_why, [given] * len(told), goal.goals(), told))
    if isinstance(goal, Equals):
        forth, back = Divides(goal.one, goal.other), Divides(goal.other, goal.one)
        return len(told) == 2 and is_right_why(given, forth, told[0]) and is_right_why(given, back, told[1])
    scale, weights, rest = told
    names = {*row(goal), *rest, *(name for one in given for name in row(one))}
    signs = all(weight >= 0 or isinstance(one, Equals) for weight, one in zip(weights, given))
    return (len(weights) == len(given) and scale >= 1 and signs and min(rest.values(), default=0) >= 0
            and all(isinstance(number, int) for number in (scale, *weights, *rest.values()))
            and all(scale * row(goal).get(name, 0) == rest.get(name, 0)
                    + sum(weight * row(one).get(name, 0) for weight, one in zip(weights, given)) for name in names))


def is_right_against(given, goal, told):
    """Whether the points keep the facts and the goal does not hold there."""
    counts = all(isinstance(count, int) and count >= 0 for point in told for count in point.values())
    return counts and all(keeps(point, one) for point in told for one in given) and not holds(goal, told)


def points_below(names, bound):
    """All points with these names and counts below the bound."""
    for counts in itertools.product(range(bound), repeat=len(names)):
        yield dict(zip(names, counts))


class Chance:
    """Sizes, facts and goals by a random source with a seed."""

    def __init__(self, seed, names):
        self.source = random.Random(seed)
        self.names = names

    def size(self, most=2, top=2):
        names = self.source.sample(self.names, self.source.randint(0, min(most, len(self.names))))
        return Size({name: self.source.randint(1, top) for name in names})

    def fact(self, most=2, top=2):
        kind = self.source.choice([Divides, Divides, Equals])
        return kind(self.size(most, top), self.size(most, top))

    def facts(self, many, most=2, top=2):
        return [self.fact(most, top) for _ in range(self.source.randint(0, many))]

    def goal(self, depth, many=2):
        if depth == 0 or self.source.random() < 0.3:
            return self.fact()
        kind = self.source.choice([Both, Either])
        return kind(*[self.goal(depth - 1, many) for _ in range(self.source.randint(0, many))])
