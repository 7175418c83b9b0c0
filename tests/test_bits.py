"""Programs on bits: lengths, wirings, ones and bit trees at points."""

import itertools
import unittest

from anyshape.bits import BitLeaf, bit_tree, length_of, lengths_at
from anyshape.errors import InvalidPoint, InvalidPosition
from anyshape.failures import DoesNotRun, UnknownArray
from anyshape.places import crossing
from anyshape.programs import Program
from anyshape.runner import Runner
from anyshape.shapes import Runs, runs
from anyshape.sizes import Size
from makers import Maker, arrays_at, word
from sums import keeps, size
from test_places import CROSSING, reordered
from test_shapes import NO_ARRAYS, program, sizes
from values import no_dicts, odd_values

N, M, K = size("n"), size("m"), size("k")
NO_POINTS = no_dicts() + [{"n": -1}, {"n": True}, {"n": "1"}, {"N": 1}, {"n": None}, {1: 1}]


def runs_of(number):
    """The longest runs of the bits of a number that are 1."""
    ends = [bit for bit in range(number.bit_length() + 1) if (number >> bit & 1) != (number << 1 >> bit & 1)]
    return list(zip(ends[::2], ends[1::2]))


def number_of(runs_there):
    """The number whose bits in the runs are 1."""
    return sum((1 << end) - (1 << begin) for begin, end in runs_there)


def term_of(tree, index, inner=()):
    """The term of a bit tree, by the places of its leaves."""
    if tree[0] == "in":
        found = tree[1].place(runs_of(index), [runs_of(at) for at in inner])
        assert found == runs_of(number_of(found))
        return "in", tree[1].source, number_of(found)
    if tree[0] == "let":
        return "let", tree[1], tuple(term_of(part, index, inner) for part in tree[2])
    return word(tree[0], [term_of(tree[2], index, inner + (at,)) for at in range(2 ** tree[1])])


def leaves_of(tree):
    """The leaves of a bit tree."""
    if tree[0] == "in":
        return [tree[1]]
    return [leaf for part in (tree[2] if tree[0] == "let" else tree[2:]) for leaf in leaves_of(part)]


def points_of(made, bound):
    """All points with the names of a program and counts below the bound that keep its facts."""
    points = [dict(zip(made.names(), counts)) for counts in itertools.product(range(bound), repeat=len(made.names()))]
    return [point for point in points if all(keeps(point, one) for one in made.facts())]


class TestLengths(unittest.TestCase):

    def test_of_sizes(self):
        point = {"n": 2, "m": 3, "zz": 9}
        self.assertEqual([length_of(size(text), point) for text in ("1", "n", "n^2*m", "k", "n*m^-1", "m^-1*n")], [0, 2, 7, 0, -1, -1])
        self.assertEqual(length_of(size=N * M, point={"n": 10 ** 50}), 10 ** 50)
        for value in NO_POINTS:
            with self.assertRaises(InvalidPoint) as caught:
                length_of(N, value)
            self.assertIs(caught.exception.value, value)

    def test_of_arrays(self):
        made = program({"x": "n m^2", "y": "k 1"}, ("a", "merge", "x", 0, 2), ("b", "spread", "a", 0, K), ("c", "cells", "f", ("x", "y")), ("d", "drop", "c", 1))
        for name, told in (("x", (2, 2)), ("a", (4,)), ("b", (7, 4)), ("y", (7, 0))):
            self.assertEqual(lengths_at(made, {"n": 2, "m": 1, "k": 7}, name), told)
        for point, told in (({"n": 2, "m": 1, "k": 0}, (2, 2)), ({"n": 0, "m": 1, "k": 5}, (5, 2)), ({"n": 4, "k": 4}, (4, 0)), ({}, (0, 0))):
            self.assertEqual(lengths_at(program=made, point=point, name="c"), told)
        self.assertEqual((lengths_at(made, {"n": 3}), lengths_at(made, {"k": 10 ** 40})), ((3,), (10 ** 40,)))
        self.assertIsInstance(lengths_at(made, {}), tuple)

    def test_which_error_comes_first(self):
        made = program({"x": "n m", "y": "k"}, ("a", "turn", "x", 0), ("b", "drop", "x", 1), ("c", "turn", "b", 0), given=("n | m", "q | k"))
        for function in (lengths_at, bit_tree):
            for value in NO_POINTS + [{"n": 1}, {"n": 2, "m": 1}, {"q": 1}, {"m": 5, "q": 2, "k": 1}]:
                with self.assertRaises(InvalidPoint) as caught:
                    function(made, value, "w")
                self.assertIs(caught.exception.value, value)
            for value in NO_POINTS:
                with self.assertRaises(InvalidPoint) as caught:
                    function(program({"x": "n m"}), value, "w")
                self.assertIs(caught.exception.value, value)
            for value in NO_ARRAYS:
                with self.assertRaises(UnknownArray) as caught:
                    function(made, {"m": 1}, value)
                self.assertIs(caught.exception.name, value)
            for name in ("b", "c", None):
                with self.assertRaises(DoesNotRun) as caught:
                    function(made, {"m": 1, "zz": 1}, name)
                self.assertEqual(caught.exception.line, 1)
        self.assertEqual((lengths_at(made, {"m": 1}, "a"), lengths_at(made, {"k": 1}, "c"), lengths_at(made, {"k": 1})), ((0, 1), (0,), (0,)))


class TestWirings(unittest.TestCase):

    POINT = {"n": 2, "m": 3, "k": 1}

    def check(self, made, wires, ones=(), bound=(), point=None):
        tree = bit_tree(made, self.POINT if point is None else point)
        leaf, = leaves_of(tree)
        self.assertEqual((leaf.source, leaf.wires, leaf.ones, leaf.bound), ("x", wires, list(ones), [list(one) for one in bound]))
        return tree

    def test_by_hand(self):
        straight, nowhere = False, (None, False)
        for lines, wires, ones, bound in (
                ((), [(6, 0, False)], (), ()), ((("a", "permute", "x", (2, 0, 1)),), [(5, 1, straight), (1, 0, straight)], (), ()),
                ((("a", "permute", "x", (1, 0, 2)),), [(1, 0, straight), (2, 4, straight), (3, 1, straight)], (), ()),
                ((("a", "turn", "x", 1),), [(1, 0, straight), (3, 1, True), (2, 4, straight)], (), ()),
                ((("a", "turn", "x", 1), ("b", "turn", "a", 0)), [(1, 0, straight), (5, 1, True)], (), ()),
                ((("a", "turn", "x", 1), ("b", "turn", "a", 1)), [(6, 0, straight)], (), ()),
                ((("a", "pick", "x", 1),), [(1, 0, straight), (2, 4, straight)], (), ()),
                ((("a", "turn", "x", 1), ("b", "pick", "a", 1)), [(1, 0, straight), (2, 4, straight)], [(1, 4)], ()),
                ((("a", "turn", "x", 0), ("b", "turn", "a", 2), ("c", "pick", "b", 0), ("d", "pick", "c", 1)), [(3, 1, straight)], [(0, 1), (4, 6)], ()),
                ((("a", "merge", "x", 0, 3), ("b", "turn", "a", 0), ("c", "split", "b", 0, (K, N, M)), ("d", "pick", "c", 1)), [(3, 0, True), (1, 5, True)], [(3, 5)], ()),
                ((("a", "spread", "x", 2, M),), [(1, 0, straight), (3, *nowhere), (5, 1, straight)], (), ()),
                ((("a", "spread", "x", 3, M), ("b", "spread", "a", 4, N)), [(5, *nowhere), (6, 0, straight)], (), ()),
                ((("a", "spread", "x", 3, M), ("b", "turn", "a", 3)), [(3, *nowhere), (6, 0, straight)], (), ()),
                ((("a", "sum", "x", (1,)),), [(1, 0, straight), (2, 4, straight)], (), [[(3, 1, straight)]]),
                ((("a", "sum", "x", (0, 2)),), [(3, 1, straight)], (), [[(2, 4, straight)], [(1, 0, straight)]]),
                ((("a", "turn", "x", 0), ("b", "sum", "a", (0, 1)), ("c", "least", "b", (0,))), [], (), [[(1, 0, straight)], [(3, 1, straight), (2, 4, True)]])):
            self.check(program({"x": "n m k"}, *lines), wires, ones, bound)
        self.check(program({"x": "n m k"}, ("a", "sum", "x", (0, 2))), [], (), [[(3, 0, False)]], {"n": 2, "k": 1})
        self.assertEqual(self.check(program({"x": "n m k"}, ("a", "sum", "x", (0, 2))), [(3, 0, False)], (), (), {"m": 3})[0], "in")

    def test_words_have_lengths(self):
        tree = bit_tree(program({"x": "n m k"}, ("a", "turn", "x", 0), ("b", "sum", "a", (0, 2)), ("c", "least", "b", (0,))), self.POINT)
        self.assertEqual((tree[:2], tree[2][:2], tree[2][2][:2], tree[2][2][2][0]), (("least", 3), ("sum", 2), ("sum", 1), "in"))

    def test_cells(self):
        made = program({"x": "n m", "y": "k"}, ("a", "cells", "f", ("x", "y")))
        for point, wirings in (({"n": 2, "m": 3, "k": 3}, [[(5, 0, False)], [(3, 0, False), (2, None, False)]]), ({"n": 2, "m": 3}, [[(5, 0, False)], [(5, None, False)]]),
                               ({"n": 2, "k": 3}, [[(3, None, False), (2, 0, False)], [(3, 0, False), (2, None, False)]]), ({}, [[], []])):
            tree = bit_tree(made, point)
            self.assertEqual((tree[:2], [leaf.wires for leaf in leaves_of(tree)]), (("let", "f"), wirings))
        with self.assertRaises(DoesNotRun):
            bit_tree(made, {"m": 1, "k": 2})

    def test_wire(self):
        leaf, = leaves_of(bit_tree(program({"x": "n m"}, ("a", "turn", "x", 1), ("b", "spread", "a", 1, K)), self.POINT))
        self.assertEqual([leaf.wire(position) for position in range(6)], [(0, True), (1, True), (2, True), None, (3, False), (4, False)])
        self.assertEqual(leaf.wire(position=4), (3, False))
        for value in odd_values() + [6, 7, True, "0", [0], (0,), 10 ** 20]:
            with self.assertRaises(InvalidPosition) as caught:
                leaf.wire(value)
            self.assertIs(caught.exception.value, value)
        leaf, = leaves_of(bit_tree(program({"x": ""}), self.POINT))
        with self.assertRaises(InvalidPosition):
            leaf.wire(0)

    def test_far_exponents(self):
        far = 10 ** 40
        made = program({"x": "n m"}, ("a", "turn", "x", 0), ("b", "permute", "a", (1, 0)), ("c", "merge", "b", 0, 2), ("d", "pick", "x", 0), ("e", "sum", "b", (0,)))
        leaf, = leaves_of(bit_tree(made, {"n": far, "m": 3 * far}, "c"))
        self.assertEqual((leaf.wires, leaf.wire(far + 5), leaf.wire(5)), ([(far, 3 * far, True), (3 * far, 0, False)], (5, False), (3 * far + 5, True)))
        self.assertEqual(leaf.place([(0, 2), (far - 1, far + 1)]), [(0, 1), (3 * far + 2, 4 * far - 1)])
        self.assertEqual(leaf.place([]), [(3 * far, 4 * far)])
        self.assertEqual(leaf.place(runs=[(0, far)], inner=()), [])
        tree = bit_tree(made, {"n": far, "m": 3 * far}, "e")
        self.assertEqual((tree[:2], tree[2][1].place([(0, 1)], [[(3 * far - 1, 3 * far)]])), (("sum", 3 * far), [(3 * far - 1, 3 * far), (3 * far + 1, 4 * far)]))

    def test_parts_do_not_change(self):
        made = program({"x": "n m"}, ("a", "turn", "x", 0), ("b", "pick", "a", 0), ("c", "spread", "b", 0, K), ("d", "sum", "c", (0, 1)))
        leaf, = leaves_of(bit_tree(made, self.POINT))
        told = (leaf.wires, leaf.ones, leaf.bound)
        leaf.wires.append(1)
        leaf.ones.clear()
        leaf.bound[0].clear()
        leaf.bound.clear()
        self.assertEqual((leaf.wires, leaf.ones, leaf.bound), told)
        self.assertEqual(told, ([], [(3, 5)], [[(3, 0, False), (1, None, False)]]))
        for name in ("source", "wires", "ones", "bound"):
            with self.assertRaises(AttributeError):
                setattr(leaf, name, None)

    def test_equality(self):
        found = [leaves_of(bit_tree(made, self.POINT))[0] for made in (
            program({"x": "n"}), program({"y": "n"}), program({"x": "m"}), program({"x": "n"}, ("a", "turn", "x", 0)),
            program({"x": "n m"}, ("a", "turn", "x", 0), ("b", "pick", "a", 0)), program({"x": "n m"}, ("a", "pick", "x", 1)),
            program({"x": "n m"}, ("a", "sum", "x", (0,))))]
        for one, other in itertools.permutations(found + [None, found[0].wires], 2):
            self.assertFalse(one == other)
        self.assertEqual(found[0], leaves_of(bit_tree(program({"x": "n k"}, ("a", "pick", "x", 1)), {"n": 2}))[0])
        self.assertIsInstance(found[0], BitLeaf)


class TestPlaces(unittest.TestCase):

    def check(self, made, point):
        """Whether the places of bits are the cells at the numbers 2 ** exponent."""
        numbers = {name: 2 ** count for name, count in point.items()}
        arrays, failing = arrays_at(made, numbers)
        for name in made.arrays():
            if name not in arrays:
                with self.assertRaises(DoesNotRun) as caught:
                    bit_tree(made, point, name)
                self.assertEqual(caught.exception.line, failing)
                continue
            shape, cells = arrays[name]
            self.assertEqual(tuple(2 ** length for length in lengths_at(made, point, name)), shape)
            if len(cells) <= 300:
                tree = bit_tree(made, point, name)
                self.assertEqual([term_of(tree, index) for index in range(len(cells))], list(cells.values()))
                self.check_longest(tree)

    def check_longest(self, tree):
        """Whether all runs are longest ones."""
        for leaf in leaves_of(tree):
            for wiring in [leaf.wires, *leaf.bound]:
                self.assertTrue(all(length > 0 for length, _, _ in wiring))
                for (length, begin, is_flipped), further in zip(wiring, wiring[1:]):
                    self.assertNotEqual(further[1:], (begin if begin is None else begin + length, is_flipped))
            self.assertTrue(all(low[1] < high[0] for low, high in zip(leaf.ones, leaf.ones[1:])))

    def test_by_chance(self):
        for seed in range(80):
            maker = Maker(seed)
            made = maker.program(9, always=seed % 4 != 0, most_leaves=4)
            points = points_of(made, 3)
            for point in maker.source.sample(points, min(4, len(points))):
                self.check(made, point)

    def test_crossed_arrays(self):
        crossed = 0
        for seed in range(60):
            maker = Maker(seed)
            made = reordered(maker, 2)
            crossed += crossing(made) is not None
            points = points_of(made, 3)
            for point in maker.source.sample(points, min(3, len(points))):
                self.check(made, point)
        self.assertGreater(crossed, 10)

    def test_programs_that_run_at_a_point_alone(self):
        made = program({"x": "n m", "y": "k"}, ("a", "cells", "f", ("x", "y")), ("b", "merge", "a", 0, 2), ("c", "split", "b", 0, sizes("m n")), ("d", "drop", "c", 0))
        self.assertNotEqual(runs(made), Runs())
        for point in points_of(made, 3):
            self.check(made, point)

    def test_a_single_far_cell(self):
        made = program({"x": "n m"}, *CROSSING, ("t", "turn", "w", 0))
        point = {"n": 50, "m": 70}
        runner = Runner(made, {"n": 2 ** 50, "m": 2 ** 70})
        leaf, = leaves_of(bit_tree(made, point))
        for index in (0, 1, 2 ** 119 + 2 ** 60, 2 ** 120 - 1, 12345678901234567890):
            self.assertEqual(runner.cell_at(index), ("in", "x", number_of(leaf.place(runs_of(index)))))


if __name__ == "__main__":
    unittest.main()
