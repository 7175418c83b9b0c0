"""Normal bit trees, and where two arrays part at a point."""

import itertools
import unittest

from anyshape.bitruns import normal_bits, parting_at
from anyshape.errors import InvalidPoint, OtherInputs
from anyshape.failures import DoesNotRun, UnknownArray
from anyshape.programs import Program
from anyshape.shapes import Runs, runs
from makers import Maker, arrays_at
from sums import facts, size
from test_bits import NO_POINTS, points_of
from test_places import CROSSING
from test_shapes import NO_ARRAYS, program, sizes

N, M, K = size("n"), size("m"), size("k")
POINT = {"n": 2, "m": 3, "k": 1}
PLAIN = ("in", "x", [], [])


class TestNormal(unittest.TestCase):

    def check(self, lines, told, point=None, inputs=None):
        made = program(inputs or {"x": "n m k"}, *lines)
        self.assertEqual(normal_bits(made, POINT if point is None else point), told)

    def test_without_words(self):
        self.check([], ("in", "x", [(6, 0, False)], []))
        self.check([("a", "turn", "x", 0), ("b", "pick", "a", 0)], ("in", "x", [(4, 0, False)], [(4, 6)]))
        self.check([("a", "cells", "f", ("x", "x"))], ("let", "f", (("in", "x", [(6, 0, False)], []),) * 2))
        self.assertEqual(normal_bits(program=program({"x": "n"}), point={"n": 1}, name="x"), ("in", "x", [(1, 0, False)], []))

    def test_a_bit_is_flipped_where_its_first_entry_is(self):
        self.check([("a", "turn", "x", 1), ("b", "sum", "a", (1,))], ("sum", 0, ((3, ((1, False),)),), ("in", "x", [(1, 0, False), (2, 4, False)], [])))
        self.check([("a", "turn", "x", 1), ("b", "cells", "f", ("x", "a")), ("c", "least", "b", (0, 1, 2))],
                   ("least", 0, ((1, ((0, False), (0, False))), (3, ((1, False), (1, True))), (2, ((4, False), (4, False)))), ("let", "f", (PLAIN, PLAIN))))
        self.check([("a", "turn", "x", 1), ("b", "cells", "f", ("a", "x")), ("c", "least", "b", (1,)), ("d", "pick", "c", 0), ("e", "pick", "d", 0)],
                   ("least", 0, ((3, ((1, False), (1, True))),), ("let", "f", (PLAIN, PLAIN))))
        self.check([("d", "turn", "x", 0), ("g", "cells", "f", ("d", "x")), ("h", "sum", "g", (0, 1, 2))],
                   ("sum", 0, ((4, ((0, False), (0, False))), (2, ((4, False), (4, True)))), ("let", "f", (PLAIN, PLAIN))))

    def test_a_bit_without_entry_is_counted_by_sums(self):
        spread = [("a", "spread", "x", 0, M), ("b", "spread", "a", 2, K)]
        plain = ("in", "x", [(6, 0, False)], [])
        self.check(spread + [("c", "sum", "b", (0, 2))], ("sum", 4, (), plain))
        self.check(spread + [("c", "least", "b", (0, 2))], plain)
        self.check(spread + [("c", "sum", "b", (0, 1, 2))], ("sum", 4, ((2, ((4, False),)),), ("in", "x", [(4, 0, False)], [])))
        self.check(spread + [("c", "greatest", "b", (0, 1))], ("greatest", 0, ((2, ((4, False),)),), ("in", "x", [(4, 0, False), (1, None, False)], [])))
        self.check(spread + [("c", "sum", "b", (0,)), ("d", "least", "c", (1,)), ("e", "sum", "d", (0,))],
                   ("sum", 3, ((2, ((4, False),)),), ("in", "x", [(4, 0, False)], [])))
        self.check(spread + [("c", "sum", "b", (0,)), ("d", "least", "c", (1,)), ("e", "sum", "d", (0,))], ("in", "x", [(3, 0, False)], []), {"m": 0, "k": 3})

    def test_words_inside_words(self):
        self.check([("a", "sum", "x", (2,)), ("b", "sum", "a", (0,)), ("c", "sum", "b", (0,))], ("sum", 0, ((6, ((0, False),)),), PLAIN))
        self.check([("a", "sum", "x", (0,)), ("b", "sum", "a", (1,))], ("sum", 0, ((1, ((0, False),)), (2, ((4, False),))), ("in", "x", [(3, 1, False)], [])))
        self.check([("a", "sum", "x", (0,)), ("b", "least", "a", (0,)), ("c", "sum", "b", (0,))],
                   ("sum", 0, ((1, ((0, False),)),), ("least", 0, ((3, ((1, False),)),), ("sum", 0, ((2, ((4, False),)),), PLAIN))))
        self.check([("a", "sum", "x", (0,)), ("b", "cells", "f", ("a",)), ("c", "sum", "b", (0, 1))],
                   ("sum", 0, ((4, ((0, False),)),), ("let", "f", (("sum", 0, ((2, ((4, False),)),), PLAIN),))))

    def test_runs_are_sorted_and_as_long_as_possible(self):
        self.check([("a", "permute", "x", (1, 2, 0)), ("b", "merge", "a", 0, 3), ("c", "sum", "b", (0,))], ("sum", 0, ((6, ((0, False),)),), PLAIN))
        self.check([("a", "cells", "f", ("y", "x")), ("b", "sum", "a", (0, 1, 2))],
                   ("sum", 0, ((3, ((0, False), (1, False))), (1, (None, (0, False))), (2, (None, (4, False)))), ("let", "f", (("in", "y", [], []), PLAIN))),
                   None, {"x": "n m k", "y": "m 1"})
        self.check([("a", "permute", "y", (1, 0)), ("b", "cells", "f", ("x", "a")), ("c", "sum", "b", (0, 1))],
                   ("sum", 0, ((1, ((0, False), (2, False))), (2, ((1, False), (0, False)))), ("let", "f", (PLAIN, ("in", "y", [], [])))),
                   {"n": 2, "m": 1}, {"x": "n m", "y": "m n"})

    def test_lists_and_far_exponents(self):
        made = program({"x": "n m"}, ("a", "turn", "x", 0), ("b", "sum", "a", (0,)), ("c", "spread", "b", 0, K), ("d", "sum", "c", (0,)))
        far = 10 ** 60
        told = normal_bits(made, {"n": far, "m": 2 * far, "k": 5 * far})
        self.assertEqual(told, ("sum", 5 * far, ((far, ((2 * far, False),)),), ("in", "x", [(2 * far, 0, False)], [])))
        told[3][2].clear()
        self.assertEqual(normal_bits(made, {"n": 1, "m": 1}, "b"), ("sum", 0, ((1, ((1, False),)),), ("in", "x", [(1, 0, False)], [])))

    def test_errors_are_those_of_the_bit_tree(self):
        made = program({"x": "n m"}, ("b", "drop", "x", 1), ("c", "turn", "b", 0), given=("n | m",))
        for value in NO_POINTS + [{"n": 1}]:
            with self.assertRaises(InvalidPoint) as caught:
                normal_bits(made, value, "w")
            self.assertIs(caught.exception.value, value)
        for value in NO_ARRAYS:
            with self.assertRaises(UnknownArray) as caught:
                normal_bits(made, {"m": 1}, value)
            self.assertIs(caught.exception.name, value)
        with self.assertRaises(DoesNotRun) as caught:
            normal_bits(made, {"m": 1})
        self.assertEqual(caught.exception.line, 0)


class TestParting(unittest.TestCase):

    def check(self, one, other, told, point=None, inputs=None):
        made = [program(inputs or {"x": "n m k"}, *lines) for lines in (one, other)]
        self.assertEqual(parting_at(*made, POINT if point is None else point), told)
        back = parting_at(*made[::-1], POINT if point is None else point)
        self.assertEqual(back, told)

    def test_axes(self):
        merged = [("a", "merge", "x", 0, 2)]
        self.check([], merged, ("axes", None))
        self.check([], [("a", "cells", "f", ("x",)), ("b", "merge", "a", 0, 3)], ("axes", None))
        self.check([], [("a", "permute", "x", (0, 2, 1))], ("axis", 1))
        self.check([], [("a", "permute", "x", (2, 0, 1))], ("axis", 0))
        self.check([], [("a", "permute", "x", (1, 0, 2))], ("axis", 0))
        self.check([], [("a", "permute", "x", (1, 0, 2))], ("place", ()), {"n": 2, "m": 2})
        self.check([], [("a", "permute", "x", (1, 0, 2))], None, {"n": 0, "m": 0, "k": 9})
        self.check(merged, [("b", "merge", "x", 1, 2)], ("axis", 0))

    def test_nodes(self):
        f, g, wide = [("a", "cells", "f", ("x",))], [("a", "cells", "g", ("x",))], [("a", "cells", "f", ("x", "x"))]
        self.check([], f, ("node", ()))
        self.check(f, g, ("node", ()))
        self.check(f, wide, ("node", ()))
        self.check([("a", "sum", "x", (0,))], [("a", "pick", "x", 0)], ("node", ()))
        self.check([("a", "sum", "x", (0,))], [("a", "least", "x", (0,))], ("node", ()))
        self.check([("a", "sum", "x", (0,))], [("a", "least", "x", (0,))], None, {"m": 3})
        self.check(wide + [("b", "cells", "g", ("x", "a"))], f + [("b", "cells", "g", ("x", "a"))], ("node", (1,)))
        self.check(wide + [("b", "sum", "a", (0,))], f + [("b", "sum", "a", (0,))], ("bits", ()))
        self.check(f + [("b", "sum", "a", (0,))], g + [("b", "sum", "a", (0,))], ("node", (0,)))
        made = [("s", "sum", "x", (0,)), ("p", "pick", "y", 0), ("a", "cells", "f", ("s", "x", "p"))]
        other = [("s", "sum", "x", (0,)), ("p", "pick", "x", 0), ("a", "cells", "f", ("s", "x", "p"))]
        self.check(made, other, ("node", (2,)), None, {"x": "n m k", "y": "n m k"})

    def test_counts_bits_and_places(self):
        wide = [("a", "spread", "x", 0, N), ("b", "spread", "a", 0, M), ("c", "sum", "b", (0,)), ("d", "sum", "b", (0, 1)), ("e", "sum", "b", (1,))]
        self.check(wide + [("g", "pick", "c", 0)], wide + [("g", "pick", "e", 0)], ("count", ()))
        self.check(wide + [("g", "pick", "c", 0)], wide + [("g", "pick", "e", 0)], None, {"n": 2, "m": 2})
        self.check(wide + [("g", "pick", "c", 0), ("h", "cells", "f", ("x", "g"))], wide + [("h", "cells", "f", ("x", "d"))], ("count", (1,)))
        self.check([("a", "sum", "x", (0, 1))], [("a", "sum", "x", (0, 2))], ("bits", ()), {"n": 1, "m": 2, "k": 2})
        self.check([("a", "turn", "x", 0), ("b", "sum", "a", (1,))], [("b", "sum", "x", (1,))], ("place", (0,)))
        self.check([("a", "turn", "x", 0), ("b", "sum", "a", (0,))], [("b", "sum", "x", (0,))], None)
        self.check([("a", "turn", "x", 0), ("b", "pick", "a", 0)], [("b", "pick", "x", 0)], ("place", ()))
        self.check([("a", "turn", "x", 0), ("b", "pick", "a", 0)], [("b", "pick", "x", 0)], None, {"m": 3})
        self.check([("a", "turn", "x", 0), ("b", "cells", "f", ("x", "a"))], [("a", "turn", "x", 2), ("b", "cells", "f", ("x", "a"))], ("place", (1,)))
        self.check([("a", "turn", "x", 0), ("b", "cells", "f", ("x", "a")), ("c", "sum", "b", (0, 1, 2))], [("b", "cells", "f", ("x", "x")), ("c", "sum", "b", (0, 1, 2))],
                   ("bits", ()))

    def test_crossed_programs(self):
        one = program({"x": "n m"}, *CROSSING)
        self.assertIsNone(parting_at(one, one, {"n": 3, "m": 5}))
        other = program({"x": "n m"}, ("y", "permute", "x", (1, 0)))
        self.assertIsNone(parting_at(one, program({"x": "n m"}, *CROSSING, ("t", "turn", "w", 0), ("s", "turn", "t", 0)), {"n": 3, "m": 5}))
        self.assertEqual(parting_at(one=one, other=other, point={"n": 1, "m": 2}), ("place", ()))

    def test_the_point(self):
        one, other = program({"x": "n m"}, given=("n | m",)), program({"x": "n m", "y": "k"}, ("a", "drop", "y", 0), given=("m | k^2",))
        for value in NO_POINTS + [{"n": 1}, {"m": 1}, {"n": 1, "m": 1}, {"n": 2, "m": 1, "k": 1}, {"m": 3, "k": 1}]:
            with self.assertRaises(InvalidPoint) as caught:
                parting_at(one, other, value)
            self.assertIs(caught.exception.value, value)

    def test_other_inputs(self):
        made = program({"x": "n m", "y": "k"}, ("a", "drop", "y", 0))
        for inputs, position in (({"x": "n m"}, 1), ({"x": "n m", "y": "k", "z": ""}, 2), ({"z": "n m", "y": "k"}, 0), ({"y": "k", "x": "n m"}, 0), ({"x": "m n", "y": "k"}, 0),
                                 ({"x": "n m", "y": "k 1"}, 1), ({"x": "n m", "y": "n"}, 1), ({"x": "n*m", "y": "k"}, 0), ({"x": "n m", "z": "k"}, 1)):
            for pair in ((made, program(inputs)), (program(inputs), made)):
                with self.assertRaises(OtherInputs) as caught:
                    parting_at(*pair, POINT)
                self.assertEqual(caught.exception.position, position)
        self.assertIsNone(parting_at(program({"x": "n m"}), program({"x": "k*n m*q"}), {"n": 2, "m": 1}))

    def test_programs_that_do_not_run(self):
        one, other = program({"x": "n m"}, ("a", "drop", "x", 0)), program({"x": "n m"}, ("a", "turn", "x", 0), ("b", "drop", "x", 1), ("c", "turn", "a", 0))
        for pair, point, line in (((one, other), {"n": 1, "m": 1}, 0), ((other, one), {"n": 1, "m": 1}, 1), ((one, other), {"m": 1}, 1), ((other, one), {"n": 1}, 0)):
            with self.assertRaises(DoesNotRun) as caught:
                parting_at(*pair, point)
            self.assertEqual(caught.exception.line, line)
        with self.assertRaises(OtherInputs):
            parting_at(one, program({"x": "n"}), {"n": 1, "m": 1})
        self.assertEqual(parting_at(one, other, {"zz": 1}), ("axes", None))

    def test_by_arrays_made_here(self):
        ways = {}
        for seed in range(60):
            pair = pair_of(Maker(seed, "nm"))
            for point in points_of(pair[0], 3):
                numbers = {name: 2 ** count for name, count in point.items()}
                arrays, failing = zip(*[arrays_at(made, {"n": 1, "m": 1, **numbers}) for made in pair])
                if failing != (None, None):
                    with self.assertRaises(DoesNotRun) as caught:
                        parting_at(*pair, point)
                    self.assertEqual(caught.exception.line, failing[0] if failing[0] is not None else failing[1])
                    continue
                told = parting_at(*pair, point)
                (shape, cells), (shape_there, cells_there) = [made[one.result] for made, one in zip(arrays, pair)]
                self.assertIs(told is None, shape == shape_there and list(cells.values()) == list(cells_there.values()))
                ways[told and told[0]] = ways.get(told and told[0], 0) + 1
                for made in pair:
                    self.check_normal(normal_bits(made, point))
        self.assertTrue({None, "axis", "axes", "node", "place"} <= set(ways))

    def check_normal(self, tree):
        """Whether a tree is normal; the number of its leaves."""
        if tree[0] == "in":
            return 1
        if tree[0] == "let":
            return sum(map(self.check_normal, tree[2]))
        name, count, runs_there, inner = tree
        self.assertNotEqual(inner[0], name)
        self.assertTrue(count > 0 or len(runs_there) > 0)
        self.assertTrue(count == 0 or name == "sum")
        many = self.check_normal(inner)
        firsts = []
        for _, entries in runs_there:
            self.assertEqual(len(entries), many)
            firsts.append(next((at, entry[0]) for at, entry in enumerate(entries) if entry is not None))
            self.assertIs(next(entry[1] for entry in entries if entry is not None), False)
        self.assertEqual(firsts, sorted(firsts))
        return many


def pair_of(maker):
    """Two programs with the same inputs, whose results often are alike."""
    base = Program(maker.inputs(2, 2), (), maker.facts(1))
    pair = []
    for _ in range(2):
        made = base
        for position in range(maker.source.randint(0, 5)):
            line = maker.line(made, f"a{'bcdefg'[position]}")
            try:
                longer = made.extended(line) if line is not None else made
            except Exception:
                continue
            if longer.leaf_count() < 6 and longer.axis_count() < 5 and (runs(longer) == Runs() or maker.source.random() < 0.1):
                made = longer
        pair.append(made)
    # So both have the same names.
    return [made.knowing(*facts("n*m | n*m")) for made in pair]


if __name__ == "__main__":
    unittest.main()
