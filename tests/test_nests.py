"""Loops over the cells of arrays."""

import itertools
import unittest

from anyshape.errors import InvalidNumbers
from anyshape.failures import NotWhole, TooMany
from anyshape.follow import Always
from anyshape.memory import HasWord, Nest, NoNest, View, is_nest, nest_of
from anyshape.places import Crossed, leaves
from anyshape.sizes import Size
from makers import Maker, arrays_at, kept_numbers
from sums import keeps, size, value
from test_nodes import BOTH, TWO_WAYS
from test_places import CROSSING
from test_shapes import Box, program
from test_views import MERGED
from values import odd_values

N, M, K, ONE = size("n"), size("m"), size("k"), Size()


def numbers_read(term):
    """The numbers of the cells of inputs in a term without words, from left to right."""
    return (term[2],) if term[0] == "in" else tuple(number for part in term[2] for number in numbers_read(part))


def counts(nest):
    return [str(count) for count, _ in nest.loops]


class TestNests(unittest.TestCase):

    def check(self, made, *loops, starts=None, name=None):
        """Each loop is a tuple of a count and a step for each leaf."""
        found = nest_of(made, name)
        self.assertEqual(found.loops, tuple((loop[0], tuple(loop[1:])) for loop in loops))
        self.assertEqual(found.starts, ((),) * made.leaf_count(name) if starts is None else starts)
        self.assertEqual(len(found), len(loops))
        self.assertTrue(is_nest(made, found, name))

    def test_one_leaf(self):
        x = {"x": "n m k"}
        self.check(program(x), (N * M * K, (1, ONE)))
        self.check(program({"x": ""}))
        self.check(program({"x": "n"}, given=("n | 1",)))
        self.check(program(x, ("a", "permute", "x", (1, 0, 2))), (M, (1, K)), (N, (1, M * K)), (K, (1, ONE)))
        self.check(program(x, ("a", "permute", "x", (1, 2, 0))), (M * K, (1, ONE)), (N, (1, M * K)))
        self.check(program(x, ("a", "turn", "x", 1)), (N, (1, M * K)), (M, (-1, K)), (K, (1, ONE)), starts=(((M * K, K),),))
        self.check(program({"x": "n m"}, *MERGED), (M, (1, ONE)), (N, (1, M)))
        self.check(program({"x": "n m"}, ("a", "spread", "x", 1, K)), (N, (1, M)), (K, 0), (M, (1, ONE)))
        self.check(program(x, ("a", "turn", "x", 0), ("b", "pick", "a", 0)), (M * K, (1, ONE)), starts=(((N * M * K, M * K),),))
        self.check(program(x, ("a", "turn", "x", 0), ("b", "turn", "a", 1), ("c", "turn", "b", 2)), (N * M * K, (-1, ONE)), starts=(((N * M * K, ONE),),))
        self.check(program(x, ("a", "turn", "x", 0)), (N * M * K, (1, ONE)), name="x")

    def test_several_leaves(self):
        made = program({"x": "n m", "y": "m 1"}, ("a", "permute", "y", (1, 0)), ("b", "cells", "f", ("x", "a", "x")))
        self.check(made, (N, (1, M), 0, (1, M)), (M, (1, ONE), (1, ONE), (1, ONE)))
        made = program({"x": "n m k", "y": "n m k"}, ("a", "permute", "y", (0, 1, 2)), ("b", "turn", "y", 0), ("c", "turn", "x", 2), ("d", "cells", "f", ("b", "c")))
        self.check(made, (N, (-1, M * K), (1, M * K)), (M, (1, K), (1, K)), (K, (1, ONE), (-1, ONE)), starts=(((N * M * K, M * K),), ((K, ONE),)))
        made = program({"x": "n m", "y": "n m"}, ("a", "cells", "f", ("x", "y")), ("b", "cells", "g", ("a", "x")))
        self.check(made, (N * M, (1, ONE), (1, ONE), (1, ONE)))

    def test_cuts_of_several_leaves_in_one_sequence(self):
        made = program(BOTH, *TWO_WAYS, given=("m = n*k",))
        found = nest_of(made)
        self.assertEqual(counts(found), ["n", "m*n^-1", "n"])
        self.assertTrue(is_nest(made, Nest(((N, ((1, K), (1, ONE))), (K, ((1, ONE), (1, N * N))), (N, ((1, M), (1, N)))), ((), ()))))
        self.check_walk(made, found, 7)

    def test_as_few_loops_as_there_are_cuts(self):
        seen = {Nest: 0, NoNest: 0, HasWord: 0, Crossed: 0}
        for seed in range(500):
            made = Maker(seed).program(6, facts=2)
            found = nest_of(made)
            seen[found.__class__] += 1
            if isinstance(found, Nest):
                always = Always(made.facts())
                cuts = []
                for leaf in leaves(made):
                    cuts += [cut for cut in leaf.row.cuts() if not any(always.equals(cut, other) for other in cuts)]
                    cuts = [cut for at, cut in enumerate(cuts) if not any(always.equals(cut, other) for other in cuts[:at])]
                self.assertEqual(len(found), len(cuts) - 1)
                self.assertTrue(is_nest(made, found))
                self.check_walk(made, found)
        self.assertGreater(seen[Nest], 200)
        self.assertGreater(seen[HasWord], 100)

    def check_walk(self, made, nest, bound=4):
        for numbers in kept_numbers(made, bound)[:12]:
            cells = arrays_at(made, numbers)[0][made.result][1]
            self.assertEqual(list(nest.walk(numbers)), [numbers_read(cell) for cell in cells.values()])

    def test_walk(self):
        made = program({"x": "n m", "y": "m n"}, ("a", "permute", "y", (1, 0)), ("b", "turn", "a", 0), ("c", "cells", "f", ("x", "b")))
        nest = nest_of(made)
        self.assertEqual(list(nest.walk({"n": 2, "m": 3})), [(0, 1), (1, 3), (2, 5), (3, 0), (4, 2), (5, 4)])
        self.assertEqual(list(nest.walk(numbers={"n": 1, "m": 1, "q": 5})), [(0, 0)])
        self.assertEqual(list(Nest((), ((), ((N, ONE),))).walk({"n": 5})), [(0, 4)])
        self.check_walk(made, nest, 5)

    def test_walks_of_many_cells(self):
        nest = nest_of(program({"x": "n m"}, ("a", "permute", "x", (1, 0))))
        self.assertEqual(len(list(nest.walk({"n": 64, "m": 64}))), 4096)
        self.assertEqual(list(nest.walk({"n": 4096, "m": 1})), [(number,) for number in range(4096)])
        for numbers in ({"n": 17, "m": 241}, {"n": 4097, "m": 1}, {"n": 10 ** 20, "m": 10 ** 20}):
            walk = nest.walk(numbers)
            with self.assertRaises(TooMany) as caught:
                next(walk)
            self.assertEqual((caught.exception.kind, caught.exception.limit), ("cells", 4096))
        with self.assertRaises(InvalidNumbers):
            list(nest.walk({"n": 3}))
        with self.assertRaises(NotWhole):
            list(Nest(((size("n^-1"), ()),), ()).walk({"n": 3}))

    def test_new_lists(self):
        made = program({"x": "n m"})
        self.assertEqual(nest_of(made), nest_of(made))
        self.assertEqual([kind.__class__ for kind in (nest_of(made).loops, nest_of(made).starts, nest_of(made).loops[0])], [tuple] * 3)


class TestNoNests(unittest.TestCase):

    def check(self, made, *pair):
        found = nest_of(made)
        self.assertIsInstance(found, NoNest)
        self.assertEqual(sorted(map(str, (found.one, found.other))), sorted(pair))
        for point in found.points:
            self.assertTrue(all(keeps(point, fact) for fact in made.facts()))
            self.assertEqual(list(point), sorted(name for name in point if point[name] > 0))
        differences = [found.one.at_point(point) - found.other.at_point(point) for point in found.points]
        self.assertLess(min(differences), 0)
        self.assertGreater(max(differences), 0)

    def test_cuts_that_do_not_divide_one_another(self):
        self.check(program(BOTH, *TWO_WAYS), "m", "n")
        self.check(program(BOTH, *TWO_WAYS, given=("n | k", "k | n*m")), "m", "n")
        self.check(program({**BOTH, "z": "n*m"}, *TWO_WAYS, ("g", "cells", "h", ("e", "z"))), "m", "n")
        for given in ("n | m", "m | n", "m = 1", "n*k = m"):
            made = program(BOTH, *TWO_WAYS, given=(given,))
            self.assertIsInstance(nest_of(made), Nest)
            self.assertTrue(is_nest(made, nest_of(made)))
        made = program(BOTH, *TWO_WAYS, given=("n | m*m", "m | n*n"))
        self.check(made, "m", "n")

    def test_no_nest_is_right(self):
        made = program(BOTH, *TWO_WAYS)
        known = made.knowing(*program({"x": ""}, given=("n | m",)).facts())
        self.assertFalse(is_nest(made, nest_of(known)))
        self.assertFalse(is_nest(made, nest_of(made)))

    def test_sequence(self):
        crossed = program({"x": "n m"}, *CROSSING)
        self.assertEqual(nest_of(crossed), Crossed(3, M, N))
        self.assertEqual(nest_of(crossed.extended(("s", "sum", "w", (0,)))), Crossed(3, M, N))
        self.assertFalse(is_nest(crossed, Nest((), ())))
        made = program(BOTH, *TWO_WAYS, ("s", "spread", "x", 0, K), ("t", "sum", "s", (0,)), ("u", "merge", "t", 0, 2), ("v", "cells", "g", ("e", "u")))
        self.assertEqual(nest_of(made), HasWord())
        self.assertEqual(nest_of(made, "t"), HasWord())
        self.assertIsInstance(nest_of(made, "s"), Nest)
        self.assertIsInstance(nest_of(program({"x": "n 1"}, ("s", "sum", "x", (1,)))), Nest)


class TestIsNest(unittest.TestCase):

    def setUp(self):
        self.made = program({"x": "n m k", "y": "k m"}, ("a", "turn", "x", 1), ("b", "permute", "y", (1, 0)), ("c", "cells", "f", ("a", "b")))
        self.nest = nest_of(self.made)

    def test_the_nest(self):
        self.assertEqual(self.nest, Nest(((N, ((1, M * K), 0)), (M, ((-1, K), (1, ONE))), (K, ((1, ONE), (1, M)))), (((M * K, K),), ())))
        self.assertTrue(is_nest(program=self.made, value=self.nest, name="c"))
        self.assertFalse(is_nest(self.made, self.nest, "a"))

    def test_changed_ones(self):
        loops, starts = self.nest.loops, self.nest.starts
        for at, loop in enumerate(loops):
            for count in (ONE, loop[0] * N, size("q"), N * M * K, 2, "n", None, Box(), loop[0].over(N * N * N)):
                changed = (*loops[:at], (count, loop[1]), *loops[at + 1:])
                self.assertIs(is_nest(self.made, Nest(changed, starts)), False)
            for place in (0, 1):
                for step in (0, (1, N * N), (-1, loop[1][place][1] if loop[1][place] else N), (1, loop[1][place][1] * M if loop[1][place] else N), None, Box(), (1, 1), "0", False):
                    if step == loop[1][place] and not isinstance(step, (bool, Box)):
                        continue
                    steps = (*loop[1][:place], step, *loop[1][place + 1:])
                    self.assertIs(is_nest(self.made, Nest((*loops[:at], (loop[0], steps), *loops[at + 1:]), starts)), False, (at, place, step))
        for bad in (((), ()), (((M * K, K),), ((N, ONE),)), (((M * K, ONE),), ()), starts[::-1], starts[:1], starts + ((),), list(starts), None, 0, Box(), (Box(), Box())):
            self.assertIs(is_nest(self.made, Nest(loops, bad)), False)
        for bad in (loops[::-1], loops[1:], loops[:2], loops + loops[:1], list(loops), None, 0, Box(), (), tuple(map(list, loops)), tuple((count, list(steps)) for count, steps in loops),
                    tuple(loop[:1] for loop in loops), tuple((*loop, 0) for loop in loops), tuple((count, steps[:1]) for count, steps in loops)):
            self.assertIs(is_nest(self.made, Nest(bad, starts)), False)
        for bad in odd_values() + [0, (loops, starts), View("x", (), ()), Box()]:
            self.assertIs(is_nest(self.made, bad), False)

    def test_longer_ones(self):
        made = program({"x": "n*k m"}, ("a", "permute", "x", (1, 0)))
        short = nest_of(made)
        self.assertEqual(short.loops, ((M, ((1, ONE),)), (N * K, ((1, M),))))
        for loops in ([(M, (1, ONE)), (N, (1, M * K)), (K, (1, M))], [(M, (1, ONE)), (K, (1, M * N)), (N, (1, M))], [(ONE, 0), (M, (1, ONE)), (N * K, (1, M)), (ONE, (-1, size("zz")))]):
            self.assertTrue(is_nest(made, Nest(tuple((count, (step,)) for count, step in loops), ((),))))
        for loops in ([(M * N, (1, ONE)), (K, (1, M))], [(K, (1, ONE)), (M, (1, M)), (N, (1, M))], [(M, (1, ONE)), (N, (1, M)), (K, (1, M))], [(M, (1, ONE)), (N, (1, M * N)), (K, (1, M))],
                      [(M * N * K, (1, ONE))], [(M, (1, ONE)), (N * K, (1, M)), (ONE, 5)]):
            self.assertFalse(is_nest(made, Nest(tuple((count, (step,)) for count, step in loops), ((),))))

    def test_counts_are_always_integers(self):
        made = program({"x": "n"})
        loops = ((size("n*m^-1"), ((1, M),)), (M, ((1, ONE),)))
        self.assertFalse(is_nest(made, Nest(loops, ((),))))
        known = program({"x": "n"}, given=("m | n",))
        self.assertTrue(is_nest(known, Nest(loops, ((),))))
        self.assertEqual(list(Nest(loops, ((),)).walk({"n": 6, "m": 2})), [(number,) for number in range(6)])

    def test_equal_sizes(self):
        made = program({"x": "n m"}, *MERGED, given=("n = k*k",))
        self.assertTrue(is_nest(made, Nest(((M, ((1, ONE),)), (K, ((1, M * K),)), (K, ((1, M),))), ((),))))
        self.assertTrue(is_nest(made, Nest(((M, ((1, size("n*k^-2")),)), (K * K, ((1, M),))), (((N, K * K),),))))
        self.assertFalse(is_nest(program({"x": "n m"}, *MERGED), Nest(((M, ((1, ONE),)), (K * K, ((1, M),))), ((),))))

    def test_right_ones_walk_over_the_cells(self):
        """Nests with changed parts are right exactly if they read at each cell what the cell reads."""
        made = program({"x": "n m"}, ("a", "permute", "x", (1, 0)))
        right = 0
        for counts_tried in itertools.product((N, M, ONE, N * M), repeat=2):
            for steps in itertools.product((0, (1, ONE), (1, M), (1, N), (-1, ONE)), repeat=2):
                nest = Nest(tuple((count, (step,)) for count, step in zip(counts_tried, steps)), ((),))
                agrees = all(self.agrees(made, nest, numbers) for numbers in kept_numbers(made, 5))
                self.assertIs(is_nest(made, nest), agrees, nest)
                right += agrees
        self.assertGreater(right, 0)

    def agrees(self, made, nest, numbers):
        cells = arrays_at(made, numbers)[0][made.result][1]
        total = value(Size.product(*[count for count, _ in nest.loops]), numbers)
        return total == len(cells) and list(nest.walk(numbers)) == [numbers_read(cell) for cell in cells.values()]


if __name__ == "__main__":
    unittest.main()
