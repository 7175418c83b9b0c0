"""What programs need in order to run."""

import itertools
import unittest

from anyshape.facts import Equals
from anyshape.failures import TooMany
from anyshape.needs import is_needs, needs, pair_count
from anyshape.programs import Program
from anyshape.shapes import Runs, runs
from anyshape.sizes import Size
from makers import Maker, arrays_at, kept_numbers
from sums import fact, facts, holds_at, size
from values import no_lists, odd_values


def joined(*shapes, given=()):
    """A program that joins inputs of these shapes."""
    inputs = [(name, tuple(map(size, shape.split()))) for name, shape in zip("xyz", shapes)]
    return Program(inputs, [("a", "cells", "f", tuple(name for name, _ in inputs))], facts(*given))


class TestPairs(unittest.TestCase):

    def test_counts(self):
        for shapes, many in ((("n m",), 0), (("n m", "n m"), 2), (("n m", "k"), 1), (("", "k"), 0), (("k", "n m a", "b c"), 3),
                             (("n m a", "k", "b c"), 3), (("k", "n m", "a b"), 3), (("", "n m", "a b"), 2), (("n m a b", "n m a b"), 4)):
            self.assertEqual(pair_count(joined(*shapes)), many)
        made = joined("n m", "k").extended(("b", "turn", "a", 0), ("c", "cells", "f", ("b", "b", "x")), ("d", "cells", "g", ("b",)))
        self.assertEqual(pair_count(program=made), 5)
        self.assertEqual(pair_count(joined("n m", "k").only()), 1)

    def test_limit(self):
        four = joined("n m a b", "n m a b")
        self.assertEqual((needs(four), is_needs(four, [()])), ([()], True))
        five = four.extended(("b", "cells", "f", ("a",)), ("c", "pick", "x", 0), ("d", "pick", "c", 0), ("e", "pick", "d", 0), ("f", "cells", "f", ("e", "e")))
        self.assertEqual(pair_count(five), 5)
        for function, rest in ((needs, ()), (is_needs, (None,)), (is_needs, ([()],))):
            with self.assertRaises(TooMany) as caught:
                function(five, *rest)
            self.assertEqual((caught.exception.kind, caught.exception.limit), ("pairs", 4))


class TestNeeds(unittest.TestCase):

    def test_by_hand(self):
        for made, cases in ((joined("n", "m"), [("n = m",), ("n = 1",), ("m = 1",)]), (joined("n", "m", given=("n | m",)), [("n = m",), ("n = 1",)]),
                            (joined("n", "n"), [()]), (joined("n", "m", given=("m | n", "n | m")), [()]), (joined("n m", "k 1"), [("n = k",), ("n = 1",), ("k = 1",)]),
                            (joined("n", "m").extended(("b", "drop", "a", 0)), [("n = 1", "m = 1")]),
                            (joined("n", "m").extended(("b", "split", "a", 0, (size("m"),))), [("n = m",), ("n = 1",)]),
                            (joined("n*m").extended(("b", "split", "x", 0, (size("m"), size("m")))), [("n = m",)]),
                            (joined("n*m").extended(("b", "split", "x", 0, (size("k"),)), ("c", "drop", "b", 0)), [("k = 1", "n*m = 1")])):
            told = [tuple(facts(*case)) for case in cases]
            self.assertIs(is_needs(made, told), True, made.lines())
            self.assertIs(is_needs(made, needs(made)), True)
            self.assertEqual(len(needs(made)), len(told))

    def test_by_arrays_at_small_numbers(self):
        found = set()
        for seed in range(120):
            maker = Maker(seed)
            made = maker.program(6, always=False, most_leaves=5)
            if pair_count(made) > 4:
                continue
            told = needs(made)
            found.add(len(told) if told != [()] else 0)
            self.assertEqual(told == [()], runs(made) == Runs())
            self.assertIs(is_needs(made, told), True)
            there = kept_numbers(made, 4)
            for numbers in maker.source.sample(there, min(6, len(there))):
                self.assertIs(arrays_at(made, numbers)[1] is None, any(all(holds_at(part, numbers) for part in case) for case in told))
        self.assertGreater(len(found), 2)

    def test_pairs_at_small_numbers(self):
        for shapes in itertools.product(["n", "m", "1", "n m", "k"], repeat=3):
            made = joined(*shapes, given=("n | k^2",))
            told = needs(made)
            self.assertIs(is_needs(made, told[::-1]), True)
            for numbers in kept_numbers(made, 4):
                self.assertIs(arrays_at(made, numbers)[1] is None, any(all(holds_at(part, numbers) for part in case) for case in told))


class TestIsNeeds(unittest.TestCase):

    MADE = joined("n", "m", given=("n | m", "q | q"))
    RIGHT = [tuple(facts("n = m")), tuple(facts("n | 1"))]

    def test_changed_lists(self):
        one, other = self.RIGHT
        for value in (self.RIGHT, tuple(self.RIGHT), [other, one], [tuple(facts("m | n")), other], [(fact("m*q | n*q"),), other]):
            self.assertIs(is_needs(program=self.MADE, value=value), True)
        for value in ([], [()], [one], [other], [one, one], [one, other, one], [one, other, ()], [one + one, other], [one + tuple(facts("n | m")), other],
                      [list(one), other], [one, other[0]], [one, None], [one, tuple(facts("m | 1"))], [one, (Equals(Size(), Size()),)],
                      [one, tuple(facts("n | m"))], [one, (fact("n*z | z"),)], [one, other + (None,)], [one * 24, other], [one * 25, other]):
            self.assertIs(is_needs(self.MADE, value), False, value)
        for value in no_lists() + odd_values():
            self.assertIs(is_needs(self.MADE, value), False)
            self.assertIs(is_needs(self.MADE, [one, value]), False)
            self.assertIs(is_needs(self.MADE, [one, (value,)]), False)

    def test_returned_lists_are_new(self):
        needs(self.MADE).clear()
        self.assertEqual(len(needs(self.MADE)), 2)


if __name__ == "__main__":
    unittest.main()
