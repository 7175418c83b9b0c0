"""Words: what crosses them, and the digits of their indexes."""

import unittest

from anyshape.failures import DoesNotRun, IsCrossed, UnknownArray
from anyshape.follow import Always
from anyshape.nodes import word_crossing, word_digits
from anyshape.places import Crossed, crossing, leaves, tree_of
from anyshape.rows import Row, Straight, Turned, Unused
from makers import Maker, kept_numbers, value
from sums import size
from test_places import CROSSING
from test_shapes import NO_ARRAYS, program

N, M, K, ONE = size("n"), size("m"), size("k"), size("1")
# One leaf is cut at n, the other one at m.
BOTH = {"x": "n m", "y": "m n"}
TWO_WAYS = [("a", "permute", "x", (1, 0)), ("b", "merge", "a", 0, 2), ("c", "permute", "y", (1, 0)), ("d", "merge", "c", 0, 2),
            ("e", "cells", "f", ("b", "d"))]


def digit(text):
    """A digit of a word: the radix, then for each leaf its factor, with a minus if it is turned, or a point."""
    radix, *entries = text.split()
    return size(radix), tuple(None if entry == "." else (size(entry.lstrip("-")), entry[0] == "-") for entry in entries)


class TestDigits(unittest.TestCase):

    def check(self, made, *told, name=None):
        expected = [(one.split(":")[0], [digit(text) for text in one.split(":")[1].split(",") if text]) for one in told]
        self.assertEqual(word_digits(made, name), expected)

    def test_without_words(self):
        self.check(program({"x": "n m"}))
        self.check(program({"x": "n m"}, ("a", "cells", "f", ("x", "x"))))
        self.check(program({"x": "n 1"}, ("a", "sum", "x", (1,))))

    def test_one_leaf(self):
        made = program({"x": "n m k"}, ("a", "turn", "x", 1), ("s", "sum", "a", (1,)), ("t", "least", "a", (0, 2)), ("u", "greatest", "a", (0, 1, 2)))
        self.check(made, "sum:m -k", name="s")
        self.check(made, "least:n m*k", "least:k 1", name="t")
        self.check(made, "greatest:k 1,m -k,n m*k")
        self.check(program({"x": "n m"}, ("a", "spread", "x", 1, K), ("s", "sum", "a", (1, 2))), "sum:m 1,k .")
        self.check(program({"x": "n m"}, ("a", "spread", "x", 1, K), ("s", "sum", "a", (1,))), "sum:k .")

    def test_several_leaves(self):
        made = program({"x": "n m", "y": "m 1"}, ("a", "permute", "y", (1, 0)), ("b", "cells", "f", ("x", "a")), ("s", "sum", "b", (0, 1)))
        self.check(made, "sum:m 1 1,n m .")
        made = program(BOTH, *TWO_WAYS, ("s", "least", "e", (0,)), given=("n | m",))
        self.check(made, "least:n m n,m*n^-1 1 n^2,n m*n^-1 1")

    def test_words_inside_words(self):
        made = program({"x": "n m k"}, ("s", "sum", "x", (0,)), ("p", "pick", "x", 0), ("c", "cells", "f", ("s", "p", "s")), ("t", "least", "c", (1,)))
        self.check(made, "least:k 1 1 1", "sum:n m*k", "sum:n m*k")
        made = program({"x": "n m k"}, ("s", "sum", "x", (0, 2)), ("t", "sum", "s", (0,)))
        self.check(made, "sum:m k", "sum:n m*k", "sum:k 1")
        made = program({"x": "n m"}, ("s", "sum", "x", (0,)), ("u", "sum", "x", (1,)), ("v", "least", "u", (0,)), ("c", "cells", "g", ("v", "s")))
        self.check(made, "least:n m", "sum:m 1", "sum:n m")

    def test_rows_are_cut_at_one_anothers_cuts(self):
        made = program({"x": "n*m k", "y": "k n m"}, ("a", "split", "x", 0, (N, M)), ("b", "permute", "a", (2, 0, 1)), ("c", "cells", "f", ("y", "b")),
                       ("s", "greatest", "c", (0, 1, 2)))
        self.check(made, "greatest:n*m 1 k,k n*m 1")
        made = program({"x": "n m k", "y": "k"}, ("c", "cells", "f", ("x", "y")), ("t", "turn", "x", 0), ("d", "cells", "g", ("c", "t")), ("s", "sum", "d", (0, 1, 2)))
        self.check(made, "sum:k 1 1 1,m k . k,n m*k . -m*k")

    def test_each_leaf_has_its_bound_row(self):
        """The digits, put together for each leaf, melt to the bound rows of the tree."""
        found = 0
        for seed in range(400):
            made = Maker(seed).program(6, facts=2)
            if word_crossing(made) is not None:
                continue
            words = word_digits(made)
            always = Always(made.facts())
            rows = [rows_of(digits) for _, digits in words]
            total = sum(len(row) for row in rows)
            bound = [row for leaf in leaves(made) for row in leaf.bound]
            self.assertEqual(total, len(bound))
            left = [row.melted(made.facts()) for one in rows for row in one]
            for row in bound:
                at = next(place for place, other in enumerate(left) if are_equal(always, row, other))
                left.pop(at)
                found += 1
        self.assertGreater(found, 60)

    def test_radices_multiply_to_the_size_of_the_index(self):
        for seed in range(60):
            made = Maker(seed).program(6, facts=2)
            if word_crossing(made) is None:
                for numbers in kept_numbers(made, 4):
                    for (_, digits), axes in zip(word_digits(made), bound_totals(made)):
                        total = 1
                        for radix, _ in digits:
                            total *= radix.at(numbers)
                        self.assertEqual(total, value(axes, numbers))


def bound_totals(made):
    """The sizes of the indexes of all words of the tree, each ahead of those inside it."""
    def sizes_in(tree):
        if tree[0] == "in":
            return []
        if tree[0] == "let":
            return [one for part in tree[2] for one in sizes_in(part)]
        return [tree[1]] + sizes_in(tree[2])
    return sizes_in(tree_of(made))


def rows_of(digits):
    """The rows that the digits of a word make for its leaves."""
    rows = []
    for leaf in range(len(digits[0][1])):
        made = []
        for radix, entries in digits:
            entry = entries[leaf]
            made.append(Unused(radix) if entry is None else (Turned if entry[1] else Straight)(radix, entry[0]))
        rows.append(Row(made))
    return rows


def are_equal(always, one, other):
    """Whether two rows have digits of the same ways with equal Sizes."""
    return len(one) == len(other) and all(
        digit.WAY == further.WAY and always.equals(digit.radix, further.radix)
        and (digit.factor is None or always.equals(digit.factor, further.factor)) for digit, further in zip(one, other))


class TestCrossing(unittest.TestCase):

    def test_a_word_that_is_crossed(self):
        made = program(BOTH, *TWO_WAYS, ("s", "sum", "e", (0,)))
        self.assertIsNone(crossing(made))
        self.assertEqual(word_crossing(made), Crossed(5, N, M))
        self.assertIsNone(word_crossing(made, "e"))
        self.assertEqual(word_digits(made, "e"), [])
        with self.assertRaises(IsCrossed) as caught:
            word_digits(made)
        error = caught.exception
        self.assertEqual((error.line, error.cut, error.other), (5, N, M))
        for given in ("n | m", "m | n", "n = m", "k*n = m", "n = 1"):
            known = program(BOTH, *TWO_WAYS, ("s", "sum", "e", (0,)), given=(given,))
            self.assertIsNone(word_crossing(known))
            self.assertEqual(len(word_digits(known)[0][1]), {"n = m": 2, "n = 1": 1}.get(given, 3))

    def test_the_other_leaf_first(self):
        lines = TWO_WAYS[:4] + [("e", "cells", "f", ("d", "b")), ("s", "sum", "e", (0,)), ("t", "cells", "g", ("s",))]
        made = program(BOTH, *lines)
        self.assertEqual(word_crossing(made), Crossed(5, M, N))
        self.assertIsNone(word_crossing(made, "e"))

    def test_the_first_crossed_word_counts(self):
        more = [("p", "spread", "e", 0, K), ("s", "sum", "p", (1,)), ("t", "least", "s", (0,)), ("q", "sum", "e", (0,)), ("u", "cells", "g", ("q", "t"))]
        made = program(BOTH, *TWO_WAYS, *more)
        self.assertEqual(word_crossing(made), Crossed(6, N, M))
        self.assertEqual(word_crossing(made, "q"), Crossed(8, N, M))
        self.assertEqual(word_crossing(made, "t"), Crossed(6, N, M))
        self.assertEqual(word_crossing(made.only("q")), Crossed(5, N, M))

    def test_the_runs_of_a_line(self):
        """Both runs of the line are crossed; the outermost one, of the first axis, is told."""
        inputs = {"x": "n m n m", "y": "m n m n"}
        lines = [("a", "permute", "x", (1, 0, 2, 3)), ("b", "merge", "a", 0, 2), ("c", "permute", "b", (0, 2, 1)), ("d", "merge", "c", 1, 2),
                 ("o", "permute", "y", (1, 0, 2, 3)), ("p", "merge", "o", 0, 2), ("q", "permute", "p", (0, 2, 1)), ("r", "merge", "q", 1, 2),
                 ("u", "spread", "d", 1, K), ("v", "spread", "r", 1, K), ("w", "cells", "f", ("u", "v")), ("s", "sum", "w", (0, 2))]
        self.assertEqual(word_crossing(program(inputs, *lines)), Crossed(11, N, M))
        lines[0], lines[4] = ("a", "permute", "x", (0, 1, 2, 3)), ("o", "permute", "y", (0, 1, 2, 3))
        made = program({"x": "n m n m", "y": "n m m n"}, *lines)
        self.assertEqual(word_crossing(made), Crossed(11, N, M))
        self.assertIsNone(word_crossing(made, "w"))

    def test_a_crossed_array_comes_first(self):
        made = program({"x": "n m"}, *CROSSING)
        self.assertEqual(word_crossing(made), crossing(made))
        made = program({"x": "n m", "y": "m n"}, *TWO_WAYS, ("g", "spread", "e", 0, size("n*m")), ("s", "sum", "g", (1,)), ("t", "split", "s", 0, (N, M)), ("v", "cells", "h", ("t", "x")),
                       ("z", "permute", "v", (1, 0)), ("aa", "merge", "z", 0, 2), ("ab", "split", "aa", 0, (N, M)), ("ac", "permute", "ab", (1, 0)))
        self.assertEqual(word_crossing(made, "v"), Crossed(6, N, M))
        self.assertEqual(word_crossing(made), Crossed(12, M, N))
        self.assertEqual(crossing(made), Crossed(12, M, N))
        with self.assertRaises(IsCrossed) as caught:
            word_digits(made)
        self.assertEqual(caught.exception.line, 12)

    def test_errors(self):
        made = program({"x": "n m"}, ("a", "drop", "x", 0), ("b", "sum", "a", (0,)))
        for function in (word_crossing, word_digits):
            for value in NO_ARRAYS:
                with self.assertRaises(UnknownArray) as caught:
                    function(made, value)
                self.assertIs(caught.exception.name, value)
            for name in (None, "x", "b"):
                with self.assertRaises(DoesNotRun) as caught:
                    function(program=made, name=name)
                self.assertEqual(caught.exception.line, 0)

    def test_lists_are_new(self):
        made = program({"x": "n m"}, ("s", "sum", "x", (0,)))
        told = word_digits(made)
        told[0][1].clear()
        told.clear()
        self.assertEqual(len(word_digits(made)[0][1]), 1)


if __name__ == "__main__":
    unittest.main()
