"""Normal trees of arrays at all sizes."""

import itertools
import unittest

from anyshape.bitruns import normal_bits
from anyshape.failures import DoesNotRun, IsCrossed, UnknownArray
from anyshape.follow import Always
from anyshape.nodes import word_crossing
from anyshape.normal import normal_tree
from anyshape.normalizing import are_same_trees
from anyshape.rows import Row
from anyshape.scales import Scales
from anyshape.sizes import Size
from makers import Maker
from sums import facts, size
from test_nodes import BOTH, TWO_WAYS, digit
from test_places import CROSSING
from test_rows import row
from test_shapes import NO_ARRAYS, program
from variants import Rewriter

N, M, K, ONE = size("n"), size("m"), size("k"), Size()


def leaf(text, source="x", tops=()):
    """The told leaf with this row."""
    return "in", source, row(text), tuple(tops)


def word(name, text, tree, count="1"):
    """The told word with these digits, in any order."""
    return name, size(count), [digit(one) for one in text.split(",") if one], tree


def same(always, one, other):
    """Whether two told trees are the same; the second one may have lists of digits."""
    if one[0] != other[0]:
        return False
    if one[0] == "in":
        rows = len(one[2]) == len(other[2]) and all(map(lambda a, b: same_digits(always, a, b), one[2], other[2]))
        tops = len(one[3]) == len(other[3]) and all(
            always.equals(a[0], b[0]) and always.equals(a[1], b[1]) for a, b in zip(one[3], other[3]))
        return one[1] == other[1] and rows and tops
    if one[0] == "let":
        return one[1] == other[1] and len(one[2]) == len(other[2]) and all(same(always, a, b) for a, b in zip(one[2], other[2]))
    left = list(other[2])
    for part in one[2]:
        found = [at for at, further in enumerate(left) if same_parts(always, part, further)]
        if not found:
            return False
        left.pop(found[0])
    return not left and always.equals(one[1], other[1]) and same(always, one[3], other[3])


def same_digits(always, one, other):
    return (one.WAY == other.WAY and always.equals(one.radix, other.radix)
            and (one.factor is None or always.equals(one.factor, other.factor)))


def same_parts(always, one, other):
    if not always.equals(one[0], other[0]):
        return False
    return all((a is None) == (b is None) and (a is None or (a[1] == b[1] and always.equals(a[0], b[0])))
               for a, b in zip(one[1], other[1]))


def at_point(tree, point):
    """A told tree at a point, as a normal bit tree is told, words in the sequence of their bits."""
    if tree[0] == "in":
        wires, ones = [], []
        for one in tree[2]:
            length = one.radix.at_point(point)
            begin = None if one.factor is None else one.factor.at_point(point)
            wires.append((length, begin, one.WAY == "turned"))
        for low, high in tree[3]:
            ones.append((low.at_point(point), high.at_point(point)))
        return "in", tree[1], wires, ones
    if tree[0] == "let":
        return "let", tree[1], tuple(at_point(part, point) for part in tree[2])
    runs = []
    for radix, entries in tree[2]:
        told = tuple(None if entry is None else (entry[0].at_point(point), entry[1]) for entry in entries)
        runs.append((radix.at_point(point), told))
    return tree[0], tree[1].at_point(point), tuple(sorted(runs, key=first_bit)), at_point(tree[3], point)


def first_bit(run):
    return next((place, entry[0]) for place, entry in enumerate(run[1]) if entry is not None)


class TestChanges(unittest.TestCase):

    def check(self, made, told, name=None):
        found = normal_tree(made, name)
        self.assertTrue(same(Always(made.facts()), found, told), found)

    def test_without_words(self):
        self.check(program({"x": "n m"}), leaf("n*m:1"))
        made = program({"x": "n m"}, ("a", "turn", "x", 0), ("b", "pick", "a", 0), ("c", "cells", "f", ("b", "x")))
        self.check(made, leaf("m:1", tops=[(M, N * M)]), "b")
        self.check(made, ("let", "f", (leaf("m:1 n", tops=[(M, N * M)]), leaf("n*m:1"))))
        self.check(program({"x": ""}), leaf(""))

    def test_kinds(self):
        found = normal_tree(program({"x": "n m"}, ("a", "turn", "x", 0), ("b", "pick", "a", 0), ("c", "spread", "b", 0, K), ("s", "sum", "c", (0, 1))))
        self.assertEqual(found[:3], ("sum", K, ((M, ((ONE, False),)),)))
        self.assertEqual(found[3], ("in", "x", Row(), ((M, N * M),)))
        self.assertEqual([kind.__class__ for kind in (found, found[2], found[2][0], found[2][0][1], found[3][3], found[3][3][0])], [tuple] * 6)

    def test_a_digit_without_entries_is_left_out(self):
        wide = [("a", "spread", "x", 0, M), ("b", "spread", "a", 2, K)]
        self.check(program({"x": "n"}, *wide, ("s", "sum", "b", (0, 2))), word("sum", "", leaf("n:1"), "k*m"))
        self.check(program({"x": "n"}, *wide, ("s", "least", "b", (0, 2))), leaf("n:1"))
        self.check(program({"x": "n"}, *wide, ("s", "greatest", "b", (0, 1))), word("greatest", "n 1", leaf("k")))
        self.check(program({"x": "n"}, *wide, ("s", "sum", "b", (0, 1, 2))), word("sum", "n 1", leaf(""), "m*k"))
        made = program({"x": "n", "y": "m"}, ("a", "spread", "y", 0, N), ("b", "spread", "x", 1, M), ("c", "cells", "f", ("a", "b")), ("s", "sum", "c", (0, 1)))
        self.check(made, word("sum", "m 1 .,n . 1", ("let", "f", (leaf("", "y"), leaf("")))))

    def test_a_digit_is_turned_where_its_first_entry_is(self):
        self.check(program({"x": "n m"}, ("a", "turn", "x", 1), ("s", "sum", "a", (1,))), word("sum", "m 1", leaf("n:m")))
        made = program({"x": "n m"}, ("a", "turn", "x", 1), ("b", "cells", "f", ("a", "x")), ("s", "sum", "b", (0, 1)))
        self.check(made, word("sum", "m 1 -1,n m m", ("let", "f", (leaf(""), leaf("")))))
        made = program({"x": "n m"}, ("a", "turn", "x", 1), ("b", "cells", "f", ("x", "a")), ("s", "sum", "b", (1,)))
        self.check(made, word("sum", "m 1 -1", ("let", "f", (leaf("n:m"), leaf("n:m")))))
        made = program({"x": "n m"}, ("t", "turn", "x", 1), ("a", "turn", "t", 0), ("b", "pick", "a", 0), ("c", "cells", "f", ("b", "a", "x")), ("s", "least", "c", (0, 1)))
        self.check(made, word("least", "m 1 1 -1,n . m -m", ("let", "f", (leaf("", tops=[(M, N * M)]), leaf(""), leaf("")))))

    def test_digits_are_joined(self):
        for order in ((1, 0, 2), (2, 1, 0), (0, 1, 2), (1, 2, 0), (2, 0, 1), (0, 2, 1)):
            made = program({"x": "n m k"}, ("a", "permute", "x", order), ("s", "sum", "a", (0, 1, 2)))
            self.check(made, word("sum", "n*m*k 1", leaf("")))
        made = program({"x": "n m k"}, ("a", "permute", "x", (2, 1, 0)), ("b", "turn", "a", 1), ("s", "sum", "b", (0, 1, 2)))
        self.check(made, word("sum", "n*m*k 1", leaf("")))
        made = program({"x": "n m k"}, ("a", "permute", "x", (2, 1, 0)), ("s", "least", "a", (0, 2)))
        self.check(made, word("least", "n m*k,k 1", leaf("m:k")))
        made = program({"x": "n m k q"}, ("a", "permute", "x", (3, 0, 2, 1)), ("s", "least", "a", (0, 1, 2)))
        self.check(made, word("least", "k*q 1,n m*k*q", leaf("m:k*q")))

    def test_digits_that_are_not_joined(self):
        made = program({"x": "n m", "y": "m n"}, ("a", "permute", "y", (1, 0)), ("b", "cells", "f", ("x", "a")), ("s", "sum", "b", (0, 1)))
        self.check(made, word("sum", "m 1 n,n m 1", ("let", "f", (leaf(""), leaf("", "y")))))
        made = program({"x": "n m", "y": "n 1"}, ("b", "cells", "f", ("x", "y")), ("s", "sum", "b", (0, 1)))
        self.check(made, word("sum", "m 1 .,n m 1", ("let", "f", (leaf(""), leaf("", "y")))))
        made = program({"x": "n m"}, ("a", "turn", "x", 0), ("b", "cells", "f", ("x", "a")), ("s", "sum", "b", (0, 1)))
        self.check(made, word("sum", "m 1 1,n m -m", ("let", "f", (leaf(""), leaf("")))))

    def test_words_are_joined_and_left_out(self):
        made = program({"x": "n m k"}, ("a", "sum", "x", (0,)), ("b", "sum", "a", (1,)), ("c", "least", "b", (0,)))
        self.check(made, word("sum", "n m*k,k 1", leaf("m:k")), "b")
        self.check(made, word("least", "m k", word("sum", "n m*k,k 1", leaf(""))))
        made = program({"x": "n m k"}, ("a", "sum", "x", (1,)), ("b", "sum", "a", (0, 1)))
        self.check(made, word("sum", "n*m*k 1", leaf("")))
        made = program({"x": "n"}, ("a", "spread", "x", 0, M), ("b", "greatest", "a", (0,)), ("c", "spread", "b", 0, K), ("d", "least", "c", (0,)))
        self.check(made, leaf("n:1"))

    def test_words_meet_when_one_between_them_is_left_out(self):
        made = program({"x": "n m"}, ("s", "sum", "x", (0,)), ("a", "spread", "s", 0, K), ("b", "least", "a", (0,)), ("t", "sum", "b", (0,)))
        self.check(made, word("sum", "n*m 1", leaf("")))
        made = program({"x": "n m"}, ("a", "spread", "x", 0, K), ("s", "sum", "a", (0,)), ("b", "spread", "s", 0, N), ("c", "least", "b", (0,)),
                       ("d", "spread", "c", 0, M), ("t", "sum", "d", (0, 2)))
        self.check(made, word("sum", "m 1", leaf("n:m"), "k*m"))

    def test_counts(self):
        made = program({"x": "n"}, ("a", "spread", "x", 0, N), ("b", "sum", "a", (0,)), ("c", "spread", "b", 1, N * M), ("d", "sum", "c", (1,)))
        self.check(made, word("sum", "", leaf("n:1"), "n*n*m"))
        self.check(made, word("sum", "", leaf("n:1"), "n"), "b")
        known = program({"x": "n"}, *made.lines(), given=("n*m = 1",))
        self.check(known, leaf(""))
        made = program({"x": "n"}, ("a", "spread", "x", 0, M), ("b", "least", "a", (0, 1)), ("c", "spread", "b", 0, K), ("d", "sum", "c", (0,)))
        self.check(made, word("sum", "", word("least", "n 1", leaf("")), "k"))

    def test_facts_make_more_equal(self):
        lines = [("a", "spread", "x", 0, M), ("s", "sum", "a", (0,))]
        self.check(program({"x": "n"}, *lines, given=("m | 1",)), leaf("n:1"))
        made = program(BOTH, *TWO_WAYS, ("s", "sum", "e", (0,)), given=("n = m",))
        self.check(made, word("sum", "n*m 1 1", ("let", "f", (leaf(""), leaf("", "y")))))

    def test_what_does_not_change_the_array(self):
        changed = 0
        for seed in range(250):
            maker = Rewriter(seed)
            made = maker.program(maker.source.randint(1, 5), facts=2)
            other = maker.rewritten(made)
            if word_crossing(made) is None and word_crossing(other) is None:
                self.assertTrue(same(Always(made.facts()), normal_tree(made), normal_tree(other)), (made.lines(), other.lines()))
                changed += made.lines() != other.lines()
        self.assertGreater(changed, 100)

    def test_at_points(self):
        """Where sizes have other exponents that are not always equal, the normal bits are the normal tree at the point."""
        compared = 0
        for seed in range(250):
            made = Maker(seed).program(6, facts=0)
            if word_crossing(made) is None:
                point = {"n": 1, "m": 101, "k": 10301}
                self.assertEqual(at_point(normal_tree(made), point), normal_bits(made, point))
                compared += any(line[1] in ("sum", "greatest", "least") for line in made.lines())
        self.assertGreater(compared, 80)
        known = facts("n | m", "m | k*n")
        for seed in range(150):
            made = Maker(seed).program(5, facts=0).knowing(*known)
            if word_crossing(made) is None:
                point = {"n": 100, "m": 107, "k": 10301}
                self.assertEqual(at_point(normal_tree(made), point), normal_bits(made, point))


class TestSame(unittest.TestCase):

    def trees(self):
        """Trees of which no two are the same, without facts."""
        inner = ("in", "x", Row(), ())
        leaves = [leaf(""), leaf("", "y"), leaf("n:1"), leaf("m:1"), leaf("n:m"), leaf("-n:1"), leaf("n"), leaf("n:1 m"), leaf("n:1 m n:m"), leaf("n m:1"), leaf("n*m:1"), leaf("", tops=[(ONE, N)]), leaf("", tops=[(ONE, M)]),
                  leaf("", tops=[(N, N * M)]), leaf("", tops=[(ONE, N), (M * N, M * N * N)])]
        letters = [("let", "f", (inner,)), ("let", "g", (inner,)), ("let", "f", (inner, inner)), ("let", "f", (leaf("n:1"), inner)), ("let", "f", (inner, leaf("n:1"))), ("let", "sum", (inner,))]
        words = [word(name, text, inner, count) for name, text, count in (
            ("sum", "n 1", "1"), ("greatest", "n 1", "1"), ("least", "n 1", "1"), ("sum", "m 1", "1"), ("sum", "n m", "1"), ("sum", "n -1", "1"), ("sum", "n 1", "m"), ("sum", "n 1", "n"), ("sum", "", "n"), ("sum", "n 1,m n*n", "1"),
            ("sum", "n 1,m k", "1"), ("sum", "n 1,m k,k q", "1"))]
        words += [word("sum", text, ("let", "f", (inner, inner))) for text in ("n 1 1", "n 1 .", "n . 1", "n 1 -1", "n 1 m", "n 1 .,m . 1", "n 1 .,m . n", "n 1 .,m n .", "n 1 1,m . n")]
        words.append(word("sum", "n 1", leaf("m:n")))
        return leaves + letters + words

    def test_trees_that_differ_in_one_thing(self):
        scales = Scales([])
        for (place, one), (other_place, other) in itertools.product(enumerate(self.trees()), repeat=2):
            self.assertIs(are_same_trees(scales, one, other), place == other_place, (one, other))

    def test_digits_in_any_order_and_equal_sizes(self):
        one, other = word("sum", "n 1,m k,k q", leaf("")), word("sum", "k q,n 1,m k", leaf(""))
        self.assertTrue(are_same_trees(Scales([]), one, other))
        for text, further in ((leaf("n:1", tops=[(K, K * N)]), leaf("m:1", tops=[(K, K * M)])), (leaf("-q:n"), leaf("-q:m")), (word("sum", "n q", leaf(""), "n"), word("sum", "m q", leaf(""), "m")),
                              (word("sum", "q n,k -1", leaf("")), word("sum", "k -1,q m", leaf("")))):
            self.assertTrue(are_same_trees(Scales(facts("n = m")), text, further))
            for given in ((), ("n | m",), ("m | n",)):
                self.assertFalse(are_same_trees(Scales(facts(*given)), text, further))


class TestErrors(unittest.TestCase):

    def test_errors(self):
        made = program({"x": "n m"}, ("a", "drop", "x", 0), ("b", "sum", "a", (0,)))
        for value in NO_ARRAYS:
            with self.assertRaises(UnknownArray) as caught:
                normal_tree(made, value)
            self.assertIs(caught.exception.name, value)
        with self.assertRaises(DoesNotRun) as caught:
            normal_tree(program=made, name="x")
        self.assertEqual(caught.exception.line, 0)

    def test_crossed(self):
        for made, told in ((program({"x": "n m"}, *CROSSING, ("s", "sum", "w", (0,))), (3, M, N)), (program(BOTH, *TWO_WAYS, ("s", "sum", "e", (0,))), (5, N, M))):
            with self.assertRaises(IsCrossed) as caught:
                normal_tree(made)
            error = caught.exception
            self.assertEqual((error.line, error.cut, error.other), told)
        self.assertEqual(normal_tree(program({"x": "n m"}, *CROSSING), "v"), leaf("n:m m:1"))


if __name__ == "__main__":
    unittest.main()
