"""Arrays that are views of inputs."""

import itertools
import unittest

from anyshape.failures import DoesNotRun, UnknownArray
from anyshape.memory import (Bent, HasWord, InPlace, Nest, NoNest, NotSingle, OtherSize, Overwritten, View, in_place, is_nest, is_view,
                             nest_of, view_of)
from anyshape.places import Crossed
from anyshape.runner import Runner
from anyshape.shapes import Answer, Runs
from anyshape.sizes import Size
from makers import Maker, arrays_at, kept_numbers
from sums import size
from test_places import CROSSING
from test_shapes import NO_ARRAYS, Box, program
from values import odd_values

N, M, K, ONE = size("n"), size("m"), size("k"), Size()
MERGED = [("a", "permute", "x", (1, 0)), ("b", "merge", "a", 0, 2)]


class TestAnswers(unittest.TestCase):

    def made(self):
        return [(NotSingle(), "NotSingle()", False), (Bent(0, {"n": 1}, 2), "Bent(0, {'n': 1}, 2)", False), (View("x", (0, (1, N)), ((M, ONE),)),
                 "View('x', (0, (1, Size('n'))), ((Size('m'), Size('1')),))", True), (HasWord(), "HasWord()", False),
                (NoNest(N, M, [{"n": 1}]), "NoNest(Size('n'), Size('m'), [{'n': 1}])", False), (Nest(((N, (0,)),), ((),)), "Nest(((Size('n'), (0,)),), ((),))", True),
                (OtherSize({"n": 1}), "OtherSize({'n': 1})", False), (Overwritten({"n": 1}, 0, None), "Overwritten({'n': 1}, 0, None)", False), (InPlace(), "InPlace()", True)]

    def test_classes(self):
        for made, text, is_yes in self.made():
            self.assertEqual((repr(made), made.is_yes, made.__class__.__bases__), (text, is_yes, (Answer,)))
            with self.assertRaises(AttributeError):
                made.is_yes = not is_yes

    def test_attributes(self):
        for kind, names in ((Bent, "axis point bit"), (View, "source steps start"), (NoNest, "one other points"), (Nest, "loops starts"), (OtherSize, "point"),
                            (Overwritten, "point leaf bit")):
            parts = {name: ([at], {"n": at}) for at, name in enumerate(names.split())}
            made = kind(**parts)
            self.assertEqual({name: getattr(made, name) for name in parts}, parts)
            self.assertEqual(made, kind(*parts.values()))
            for name in parts:
                self.assertNotEqual(made, kind(**{**parts, name: ([9], {"n": 9})}))
            for name in parts:
                parts[name][0].append(5)
                parts[name][1]["n"] = 7
                self.assertNotEqual(getattr(made, name), parts[name])

    def test_equality(self):
        made = [told for told, _, _ in self.made()] + [Bent(0, {"n": 1}, 1), View("y", (0, (1, N)), ((M, ONE),)), Nest((), ()), None, Runs()]
        for (place, one), (other_place, other) in itertools.product(enumerate(made), repeat=2):
            self.assertEqual(one == other, place == other_place)

    def test_any_values(self):
        for value in odd_values():
            for made, other in ((Bent(value, 0, value), Bent(value, 0, value)), (View(value, value, 0), View(value, value, 0)), (NoNest(value, 0, value), NoNest(value, 0, value)),
                                (Nest(value, value), Nest(value, value)), (OtherSize(value), OtherSize(value)), (Overwritten(value, value, 1), Overwritten(value, value, 1))):
                self.assertEqual(made, other)


class TestViews(unittest.TestCase):

    def check(self, made, steps, start=(), source="x", name=None):
        found = view_of(made, name)
        self.assertEqual((found.source, found.steps, found.start), (source, tuple(steps), tuple(start)))
        self.assertTrue(is_view(made, found, name))

    def test_plain(self):
        self.check(program({"x": "n m k"}), [(1, M * K), (1, K), (1, ONE)])
        self.check(program({"x": ""}), [])
        self.check(program({"x": "n", "y": "m 1 n"}), [(1, N), 0, (1, ONE)], source="y")
        self.check(program({"x": "n m"}), [(1, M), (1, ONE)], name="x")

    def test_lines(self):
        x = {"x": "n m k"}
        self.check(program(x, ("a", "permute", "x", (2, 0, 1))), [(1, ONE), (1, M * K), (1, K)])
        self.check(program(x, ("a", "merge", "x", 1, 2)), [(1, M * K), (1, ONE)])
        self.check(program(x, ("a", "turn", "x", 1)), [(1, M * K), (-1, K), (1, ONE)], [(M * K, K)])
        self.check(program(x, ("a", "pick", "x", 1)), [(1, M * K), (1, ONE)])
        self.check(program(x, ("a", "turn", "x", 0), ("b", "pick", "a", 0)), [(1, K), (1, ONE)], [(N * M * K, M * K)])
        self.check(program(x, ("a", "spread", "x", 1, N)), [(1, M * K), 0, (1, K), (1, ONE)])
        self.check(program({"x": "n*m k"}, ("a", "split", "x", 0, (M, N)), ("b", "turn", "a", 1)), [(1, N * K), (-1, K), (1, ONE)], [(N * K, K)])
        self.check(program({"x": "n m"}, ("a", "turn", "x", 0), ("b", "turn", "a", 1), ("c", "merge", "b", 0, 2)), [(-1, ONE)], [(N * M, ONE)])
        self.check(program({"x": "n m"}, ("a", "spread", "x", 2, K), ("b", "spread", "a", 3, N), ("c", "merge", "b", 2, 2)), [(1, M), (1, ONE), 0])

    def test_axes_of_size_1(self):
        made = program({"x": "n 1 m"}, ("a", "turn", "x", 1))
        self.check(made, [(1, M), 0, (1, ONE)])
        made = program({"x": "n k m"}, ("a", "permute", "x", (1, 2, 0)), given=("k | 1",))
        self.assertEqual(view_of(made).steps[0], 0)
        for step in (0, (1, N), (-1, size("zz")), (1, size("n^-3"))):
            self.assertTrue(is_view(made, View("x", (step, (1, ONE), (1, M)), ())))
        for step in (None, 1, False, (0, N), (1, 2), (True, N), (1,), (1, N, N), [1, N], "0", Box()):
            self.assertFalse(is_view(made, View("x", (step, (1, ONE), (1, M)), ())))

    def test_facts(self):
        made = program({"x": "n m"}, *MERGED, given=("m | 1",))
        self.assertTrue(is_view(made, View("x", ((1, ONE),), ())))
        self.assertTrue(is_view(made, View("x", ((1, M),), ())))
        made = program({"x": "n m"}, *MERGED, ("c", "split", "b", 0, (size("k"), size("k"), N)), given=("m = k*k",))
        self.assertEqual(view_of(made).steps[1:], ((1, ONE), (1, M)))
        self.assertTrue(is_view(made, View("x", ((1, K), (1, ONE), (1, K * K)), ())))

    def test_numbers(self):
        view = View("x", ((1, M), 0, (-1, ONE)), ((N * M, M), (M, ONE)))
        self.assertEqual(view.number((1, 5, 2), {"n": 3, "m": 4}), 4 - 2 + 12 - 4 + 4 - 1)
        self.assertEqual(view.number(position=(0, 0, 0), numbers={"n": 1, "m": 1, "q": 9}), 0)
        self.assertEqual(View("x", (), ()).number((), {}), 0)

    def test_cells(self):
        seen = {}
        for seed in range(300):
            made = Maker(seed).program(5, facts=2)
            view = view_of(made)
            seen[view.__class__] = seen.get(view.__class__, 0) + 1
            self.assertEqual(view_of(made), view)
            if isinstance(view, View):
                self.assertTrue(is_view(made, view))
                for numbers in kept_numbers(made, 4):
                    for at, cell in arrays_at(made, numbers)[0][made.result][1].items():
                        self.assertEqual(cell, ("in", view.source, view.number(at, numbers)))
        self.assertGreater(seen[View], 100)
        self.assertGreater(seen[NotSingle], 50)


class TestNoViews(unittest.TestCase):

    def check_bent(self, made, axis=None):
        found = view_of(made)
        self.assertIsInstance(found, Bent)
        self.assertIn(axis, (None, found.axis))
        self.assertTrue(all(fact.kept_by(found.point) for fact in made.facts()))
        self.assertEqual(list(found.point), sorted(found.point))
        runner = Runner(made, {name: 2 ** found.point.get(name, 0) for name in made.names()})
        numbers = []
        for index in (0, 1, 2 ** found.bit):
            position = [0] * len(runner.shape())
            position[found.axis] = index
            numbers.append(runner.cell(position)[2])
        self.assertNotEqual(numbers[2], numbers[0] + 2 ** found.bit * (numbers[1] - numbers[0]))

    def test_bent(self):
        self.check_bent(program({"x": "n m"}, *MERGED), 0)
        self.check_bent(program({"x": "n m"}, *MERGED, given=("n | m",)), 0)
        self.check_bent(program({"x": "n m"}, *MERGED, ("c", "split", "b", 0, (M, N)), ("d", "merge", "c", 0, 2), ("e", "spread", "d", 0, K)), 1)
        self.check_bent(program({"x": "n m"}, ("a", "turn", "x", 0), ("b", "merge", "a", 0, 2)), 0)
        self.check_bent(program({"x": "n m"}, ("a", "turn", "x", 1), ("b", "merge", "a", 0, 2)), 0)
        self.check_bent(program({"x": "n"}, ("a", "spread", "x", 1, M), ("b", "merge", "a", 0, 2)), 0)
        self.check_bent(program({"x": "n"}, ("a", "spread", "x", 0, M), ("b", "merge", "a", 0, 2)), 0)
        self.check_bent(program({"x": "n m k"}, ("a", "permute", "x", (0, 2, 1)), ("b", "merge", "a", 1, 2)), 1)
        self.check_bent(program({"x": "n m k"}, ("a", "permute", "x", (1, 0, 2)), ("b", "merge", "a", 0, 2)), 0)
        self.check_bent(program({"x": "n m k"}, ("a", "permute", "x", (1, 0, 2)), ("b", "merge", "a", 0, 2), given=("n^3 | k",)), 0)

    def test_axes_that_do_not_meet_the_cuts(self):
        lines = MERGED + [("c", "split", "b", 0, (K, K))]
        self.check_bent(program({"x": "n m"}, *lines, given=("n*m = k*k",)))
        self.check_bent(program({"x": "n n*k*k"}, *MERGED, ("c", "split", "b", 0, (N * K, N * K))))

    def test_far_exponents(self):
        made = program({"x": "n*n*n*n*n*n*n*n*n m"}, *MERGED, given=("m = k*k*k*k*k*k*k*k*k",))
        found = view_of(made)
        self.assertGreater(found.point["k"], 0)
        self.assertGreater(found.point["n"], 0)

    def test_random_ones(self):
        bent = 0
        for seed in range(400):
            maker = Maker(seed)
            made = maker.program(5, facts=2)
            for name in made.arrays():
                if made.axis_count(name) > 1 and isinstance(view_of(made, name), View):
                    merged = made.extended(("q", "merge", name, 0, made.axis_count(name)))
                    found = view_of(merged)
                    if isinstance(found, Bent) and max(found.point.values()) < 5:
                        self.check_bent(merged, 0)
                        bent += 1
                    break
        self.assertGreater(bent, 5)

    def test_sequence(self):
        crossed = program({"x": "n m"}, *CROSSING)
        self.assertEqual(view_of(crossed), Crossed(3, M, N))
        self.assertEqual(view_of(crossed.extended(("g", "cells", "f", ("w",)))), Crossed(3, M, N))
        self.assertEqual(view_of(crossed.extended(("g", "sum", "w", (0,)))), Crossed(3, M, N))
        self.assertIsInstance(view_of(crossed, "y"), View)
        for line in (("c", "cells", "f", ("b",)), ("c", "sum", "b", (0,)), ("c", "least", "x", (0,)), ("c", "cells", "f", ("x",))):
            self.assertEqual(view_of(program({"x": "n m"}, *MERGED, line)), NotSingle())
        self.assertIsInstance(view_of(program({"x": "n 1"}, ("c", "sum", "x", (1,)))), View)

    def test_errors(self):
        made = program({"x": "n m"}, ("a", "drop", "x", 0), ("b", "sum", "a", (0,)))
        functions = [view_of, nest_of, lambda program, name: in_place(program, "x", name), lambda program, name: is_view(program, None, name),
                     lambda program, name: is_nest(program, None, name)]
        for function in functions:
            for value in NO_ARRAYS:
                with self.assertRaises(UnknownArray) as caught:
                    function(made, value)
                self.assertIs(caught.exception.name, value)
            for name in (None, "x", "b"):
                with self.assertRaises(DoesNotRun) as caught:
                    function(made, name)
                self.assertEqual(caught.exception.line, 0)
        with self.assertRaises(DoesNotRun):
            is_view(program=made, value=3)
        with self.assertRaises(UnknownArray):
            view_of(program=made, name="w")


class TestIsView(unittest.TestCase):

    def test_parts(self):
        made = program({"x": "n m", "y": "n m"}, ("a", "turn", "x", 0), ("b", "permute", "a", (1, 0)))
        steps, start = ((1, ONE), (-1, M)), ((N * M, M),)
        self.assertEqual(view_of(made), View("x", steps, start))
        for value in (View("x", steps, ((N * M, ONE), (ONE, M))), View("x", steps, ((K, M), (N * M, K))), View("x", steps, start + ((K, K),)),
                      View("x", steps, ((size("k^-1"), size("k^-1")),) + start), View("x", steps, ((N, M), (N * M, N)))):
            self.assertTrue(is_view(made, value))
        for value in (View("y", steps, start), View("b", steps, start), View(None, steps, start), View(["x"], steps, start), View(Box(), steps, start),
                      View("x", steps[::-1], start), View("x", steps[:1], start), View("x", steps + (0,), start), View("x", list(steps), start), View("x", None, start),
                      View("x", ((1, ONE), (1, M)), start), View("x", ((-1, ONE), (-1, M)), start), View("x", ((1, ONE), (-1, N)), start), View("x", (0, (-1, M)), start),
                      View("x", ((1, ONE), 0), start), View("x", ((1, ONE), (-1, M * K)), start), View("x", (1, (-1, M)), start), View("x", ([1, ONE], (-1, M)), start),
                      View("x", ((True, ONE), (-1, M)), start), View("x", ((1, 1), (-1, M)), start), View("x", ((2, ONE), (-1, M)), start),
                      View("x", steps, ()), View("x", steps, start * 2), View("x", steps, ((M, N * M),)), View("x", steps, ((N * M, ONE),)), View("x", steps, list(start)),
                      View("x", steps, (list(start[0]),)), View("x", steps, ((N * M,),)), View("x", steps, ((N * M, 4),)), View("x", steps, None), View("x", steps, 0),
                      View("x", steps, ((N * M, M, M),)), View("x", Box(), start), View("x", steps, Box()), View("x", (Box(), Box()), start), NotSingle(), None, 0, "x", Box(),
                      ("x", steps, start)):
            self.assertIs(is_view(made, value), False)

    def test_facts_make_sizes_equal(self):
        made = program({"x": "n m"}, ("a", "turn", "x", 0), given=("m = k*k",))
        self.assertTrue(is_view(made, View("x", ((-1, K * K), (1, ONE)), ((N * M, K * K),))))
        self.assertTrue(is_view(made, View("x", ((-1, size("m^2*k^-2")), (1, ONE)), ((N * K * K, M),))))
        self.assertFalse(is_view(made, View("x", ((-1, K), (1, ONE)), ((N * M, M),))))
        self.assertFalse(is_view(program({"x": "n m"}, ("a", "turn", "x", 0)), View("x", ((-1, K * K), (1, ONE)), ((N * M, K * K),))))

    def test_zero_start(self):
        made = program({"x": "n m"}, ("a", "turn", "x", 0), ("b", "pick", "a", 0), given=("n = 1",))
        self.assertTrue(is_view(made, View("x", ((1, ONE),), ())))
        self.assertTrue(is_view(made, View("x", ((1, ONE),), ((N * M, M),))))

    def test_other_arrays(self):
        view = View("x", ((1, M), (1, ONE)), ())
        for lines in (MERGED, CROSSING, [("c", "cells", "f", ("x",))], [("a", "turn", "x", 0)], [("a", "permute", "x", (1, 0))]):
            made = program({"x": "n m"}, *lines)
            self.assertIs(is_view(made, view), False)
            self.assertIs(is_view(made, view, "x"), True)
            self.assertIs(is_view(program=made, value=view, name="x"), True)


if __name__ == "__main__":
    unittest.main()
