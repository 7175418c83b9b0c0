"""Names that are always 1, names that are alike, and lean facts."""

import unittest

from anyshape.errors import InvalidFacts, InvalidNames
from anyshape.facts import Equals
from anyshape.failures import TooMany
from anyshape.follow import follows
from anyshape.goals import Both
from anyshape.more import alike_names, lean, ones
from anyshape.sizes import Size
from sums import Chance, fact, facts, size
from values import no_lists, no_names, odd_values

EIGHT = "a*b*c*d | e*f*g*h"


class TestNames(unittest.TestCase):

    def test_ones(self):
        self.assertEqual(ones([]), [])
        self.assertEqual(ones([], names=["b", "a"]), [])
        self.assertEqual(ones(facts("z | 1", "a*c = 1", "d | e")), ["a", "c", "z"])
        self.assertEqual(ones(facts("a^2 | b", "b | a", "c | a*b"), names=["d"]), ["a", "b", "c"])
        self.assertEqual(ones(facts=facts("a | 1"), names=("a",)), ["a"])

    def test_alike_names(self):
        self.assertEqual(alike_names([]), [])
        self.assertEqual(alike_names([], names=["b", "a"]), [])
        self.assertEqual(alike_names(facts("b | a", "a | b", "d = c", "e | e")), [["a", "b"], ["c", "d"]])
        self.assertEqual(alike_names(facts("z | 1", "a*c = 1")), [["a", "c", "z"]])
        self.assertEqual(alike_names(facts("z | 1", "a^2 = c^2"), names=["b"]), [["a", "c"]])
        self.assertEqual(alike_names(facts=facts("a*b = c*d", "a = d"), names=("b",)), [["a", "d"], ["b", "c"]])
        self.assertEqual(alike_names(facts("a^2 = b")), [])

    def test_by_what_follows(self):
        chance = Chance(41, "abcd")
        for _ in range(120):
            given = chance.facts(6)
            single = {name: Size({name: 1}) for name in "abcd"}
            self.assertEqual(ones(given, names="a b c d".split()),
                             [name for name in "abcd" if follows(given, Equals(single[name], Size()))])
            groups = {tuple(other for other in "abcd" if follows(given, Equals(single[name], single[other])))
                      for name in "abcd"}
            self.assertEqual(alike_names(given, names=list("dcba")), sorted(list(group) for group in groups if len(group) > 1))

    def test_returned_lists_are_new(self):
        given = facts("a = b", "c | 1")
        ones(given).clear()
        alike_names(given)[0].clear()
        self.assertEqual((ones(given), alike_names(given)), (["c"], [["a", "b"]]))


class TestLean(unittest.TestCase):

    def test_by_hand(self):
        for texts, left in (((), []), (("a | b",), [0]), (("a | b", "b | c", "a | c"), [0, 1]),
                            (("a | c", "a | b", "b | c"), [1, 2]), (("a | b", "a | b"), [0]), (("a | a",), []),
                            (("a = b", "a | b", "b | a"), [0]), (("a | b", "b | a", "a = b"), [0, 1]),
                            (("a^2 | b^2", "a | b", "1 | c"), [0]), (("a*b = 1", "a | 1", "b = 1"), [0])):
            self.assertEqual(lean(facts(*texts)), left, texts)
        self.assertEqual(lean(facts=tuple(facts("a | b", "a | b"))), [0])

    def test_by_what_follows(self):
        chance = Chance(42, "abc")
        for _ in range(100):
            given = chance.facts(8)
            left = lean(given)
            kept = list(given)
            for position in reversed(range(len(given))):
                others = [one for one in kept[:position]] + kept[position + 1:]
                self.assertIs(position in left, not follows(others, kept[position]))
                if position not in left:
                    kept = others
            self.assertEqual(kept, [given[position] for position in left])


class TestRefusals(unittest.TestCase):

    def test_facts(self):
        for call in (lambda given: ones(given, names=3), lambda given: alike_names(given, names=3), lean):
            for value in no_lists():
                with self.assertRaises(InvalidFacts) as caught:
                    call(value)
                self.assertIsNone(caught.exception.position)
            for value in odd_values() + [0, "a | b", size("a"), Both(fact("a | b"))]:
                with self.assertRaises(InvalidFacts) as caught:
                    call([fact("a | b")] * 13 + [value, 5])
                self.assertEqual(caught.exception.position, 13)
            with self.assertRaises(TooMany) as caught:
                call([fact(EIGHT), fact("x | y")] + [fact("a | b")] * 11)
            self.assertEqual((caught.exception.kind, caught.exception.limit), ("facts", 12))

    def test_names(self):
        for call in (ones, alike_names):
            for value in no_lists():
                with self.assertRaises(InvalidNames) as caught:
                    call([fact(EIGHT), fact("x | y")], names=value)
                self.assertIsNone(caught.exception.position)
            for value in no_names():
                with self.assertRaises(InvalidNames) as caught:
                    call([fact(EIGHT), fact("x | y")], names=["a", value, 3])
                self.assertEqual(caught.exception.position, 1)

    def test_eight_and_nine_names(self):
        nine = [fact(EIGHT), fact("x | x")]
        for call in (lambda: ones(nine), lambda: alike_names(nine), lambda: lean(nine),
                     lambda: ones([fact(EIGHT)], names=["z"]), lambda: alike_names([], names=list("abcdefghi"))):
            with self.assertRaises(TooMany) as caught:
                call()
            self.assertEqual((caught.exception.kind, caught.exception.limit), ("names", 8))
        self.assertEqual((ones([fact(EIGHT)]), alike_names([fact(EIGHT)], names=["h"]), lean([fact(EIGHT)])), ([], [], [0]))


if __name__ == "__main__":
    unittest.main()
