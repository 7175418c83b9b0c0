"""What is always so, for Sizes with any exponents and any number of names."""

import string
import unittest

from anyshape.errors import InvalidFacts, InvalidSize
from anyshape.facts import Divides, Equals
from anyshape.failures import TooMany
from anyshape.follow import Always, follows
from anyshape.goals import Both
from anyshape.sizes import Size
from sums import Chance, fact, facts, keeps, points_below, size
from values import no_lists, odd_values

NAMES = [one + two for one in string.ascii_lowercase for two in string.ascii_lowercase]


class TestAlways(unittest.TestCase):

    def test_by_hand(self):
        always = Always(facts("n | m", "m | n*r", "k^2 = 1"))
        for one, other, divides, equals in (
                ("n", "m", True, False), ("m", "n", False, False), ("m", "m", True, True), ("1", "n^-1", False, False),
                ("n^-1", "1", True, False), ("m^-1", "n^-1", True, False), ("1", "m*n^-1", True, False),
                ("m*n^-1", "r", True, False), ("r", "m*n^-1", False, False), ("k", "1", True, True),
                ("k^-3*m", "k^5*m", True, True), ("z", "1", False, False), ("1", "z", True, False),
                ("z^-1", "k", True, False), ("z^-1", "z^-1", True, True), ("n^2", "m^2", True, False)):
            self.assertIs(always.divides(size(one), size(other)), divides, (one, other))
            self.assertIs(always.equals(one=size(one), other=size(other)), equals, (one, other))
        for text, answer in (("1", True), ("k", True), ("k^-4", True), ("n", False), ("n^-1", False), ("m^-1*n", False)):
            self.assertIs(always.is_one(size=size(text)), answer)

    def test_as_what_follows(self):
        chance = Chance(31, "abcd")
        for _ in range(200):
            given = chance.facts(6)
            always, one, other = Always(given), chance.size(), chance.size()
            self.assertIs(always.divides(one, other), follows(given, Divides(one, other)))
            self.assertIs(always.equals(one, other), follows(given, Equals(one, other)))
            self.assertIs(always.is_one(one), follows(given, Equals(one, Size())))
            self.assertIs(always.is_one(one.over(other)), follows(given, Equals(one, other)))

    def test_exponents_below_0_by_all_small_points(self):
        chance = Chance(32, "abc")
        for _ in range(100):
            given = chance.facts(3)
            points = [point for point in points_below("abc", 5) if all(keeps(point, one) for one in given)]
            one, other = [Size({name: chance.source.randint(-1, 1) for name in "abc"}) for _ in range(2)]
            rest = [other.at_point(point) - one.at_point(point) for point in points]
            self.assertIs(Always(given).divides(one, other), min(rest) >= 0, (given, one, other))
            self.assertIs(Always(given).equals(one, other), min(rest) == 0 == max(rest))

    def test_chains_of_60_facts_with_many_names(self):
        given = [Divides(Size({NAMES[at]: 1}), Size({NAMES[at + 1]: 1})) for at in range(60)]
        always = Always(tuple(given))
        first, last = Size({NAMES[0]: 1}), Size({NAMES[60]: 1})
        self.assertIs(always.divides(first, last), True)
        self.assertIs(always.divides(last, first), False)
        self.assertIs(always.equals(first, last), False)
        ring = Always(given[:59] + [Divides(Size({NAMES[59]: 1}), first)])
        self.assertIs(ring.equals(first, Size({NAMES[30]: 1})), True)
        self.assertIs(ring.is_one(first.over(Size({NAMES[7]: 1}))), True)
        self.assertIs(ring.is_one(first), False)

    def test_60_facts_with_many_names_each(self):
        chance = Chance(33, NAMES[:40])
        given = [chance.fact(8, 3) for _ in range(60)]
        always = Always(given)
        for _ in range(4):
            chosen = chance.source.sample(given, 5)
            one, other = Size.product(*[a.one for a in chosen]), Size.product(*[a.other for a in chosen])
            self.assertIs(always.divides(one, other), True)
        free = Size({NAMES[50]: 1})
        self.assertIs(always.divides(free, free * Size({NAMES[1]: 1})), True)
        self.assertIs(always.divides(free, Size({NAMES[1]: 1})), False)

    def test_no_facts(self):
        always = Always([])
        self.assertEqual([always.divides(size("a"), size("a*b")), always.divides(size("a"), size("b"))], [True, False])
        self.assertEqual([always.is_one(Size()), always.is_one(size("a"))], [True, False])

    def test_60_and_61_facts(self):
        Always(facts=[fact("a | b")] * 60)
        with self.assertRaises(TooMany) as caught:
            Always([fact("a | b")] * 61)
        self.assertEqual((caught.exception.kind, caught.exception.limit), ("facts", 60))
        with self.assertRaises(InvalidFacts) as caught:
            Always([fact("a | b")] * 61 + [None])
        self.assertEqual(caught.exception.position, 61)

    def test_wrong_facts(self):
        for value in no_lists():
            with self.assertRaises(InvalidFacts) as caught:
                Always(value)
            self.assertIsNone(caught.exception.position)
        for value in odd_values() + [0, "a | b", size("a"), Both(fact("a | b"))]:
            with self.assertRaises(InvalidFacts) as caught:
                Always([fact("a | b"), value, None])
            self.assertEqual(caught.exception.position, 1)

    def test_wrong_sizes(self):
        always = Always(facts("a | b"))
        for value in odd_values() + [0, 1, "a", {}, {"a": 1}, fact("a | b")]:
            for call in (lambda: always.divides(value, 7), lambda: always.divides(size("a"), value), lambda: always.is_one(value),
                         lambda: always.equals(value, 7), lambda: always.equals(size("b"), value)):
                with self.assertRaises(InvalidSize) as caught:
                    call()
                self.assertIs(caught.exception.value, value)

    def test_facts_that_are_changed_later(self):
        given = facts("a | b")
        always = Always(given)
        given[0] = fact("b | a")
        self.assertEqual([always.divides(size("a"), size("b")), always.divides(size("b"), size("a"))], [True, False])


if __name__ == "__main__":
    unittest.main()
