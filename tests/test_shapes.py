"""Whether programs run, and the shapes of their arrays."""

import unittest

from anyshape.errors import InvalidNumbers
from anyshape.failures import BrokenFact, DoesNotRun, UnknownArray
from anyshape.numbers import numbers_of
from anyshape.places import Crossed
from anyshape.programs import Program
from anyshape.shapes import Answer, Fails, Runs, is_fails, runs, shape, shape_at
from anyshape.sizes import Size
from makers import Maker, arrays_at, kept_numbers
from sums import fact, facts, size
from values import no_dicts, odd_values

N, M, K, ONE = size("n"), size("m"), size("k"), Size()
NO_ARRAYS = [value for value in odd_values() if value is not None] + [0, 1, "w", ["x"], ("x",), {"x": 1}]


def program(inputs, *lines, given=()):
    """A program of sizes that are told by texts, separated by blanks."""
    return Program([(name, sizes(axes)) for name, axes in inputs.items()], lines, facts(*given))


def sizes(texts):
    return tuple(size(text) for text in texts.split())


class Box:
    """An object that is equal to everything."""

    def __eq__(self, other):
        return True


class TestAnswers(unittest.TestCase):

    def test_classes(self):
        for made, kind, is_yes in ((Runs(), Runs, True), (Fails(1, 2, []), Fails, False), (Crossed(1, N, M), Crossed, False)):
            self.assertEqual(kind.__bases__, (Answer,))
            self.assertIs(made.is_yes, is_yes)
            with self.assertRaises(AttributeError):
                made.is_yes = not is_yes
        self.assertIs(Answer().is_yes, False)

    def test_parts_and_texts(self):
        made = Fails(2, 0, [{"n": 1}])
        self.assertEqual((made.line, made.axis, made.points), (2, 0, [{"n": 1}]))
        self.assertEqual((repr(made), repr(Runs())), ("Fails(2, 0, [{'n': 1}])", "Runs()"))
        self.assertEqual(made, Fails(line=2, axis=0, points=[{"n": 1}]))
        self.assertEqual(Runs(), Runs())
        for other in (Fails(1, 0, [{"n": 1}]), Fails(2, 1, [{"n": 1}]), Fails(2, 0, [{"n": 2}]), Fails(2, 0, ({"n": 1},)), Runs(),
                      None, (2, 0, [{"n": 1}]), Crossed(2, 0, [{"n": 1}])):
            self.assertFalse(made == other)
            self.assertFalse(other == made)

    def test_any_values(self):
        for value in odd_values() + [{}, [[]]]:
            made = Fails(value, [value], {"a": value})
            self.assertEqual((made.line, made.axis, made.points), (value, [value], {"a": value}))
            self.assertEqual(made, Fails(value, [value], {"a": value}))

    def test_crossed(self):
        made = Crossed(2, N, M)
        self.assertEqual((made.line, made.cut, made.other, repr(made)), (2, N, M, "Crossed(2, Size('n'), Size('m'))"))
        self.assertEqual(made, Crossed(line=2, cut=size("n"), other=size("m")))
        for other in (Crossed(1, N, M), Crossed(2, M, M), Crossed(2, N, N), Runs(), None, Fails(2, N, M)):
            self.assertFalse(made == other)

    def test_what_was_passed_may_change(self):
        points = [{"n": 1}]
        made, other = Fails(0, 0, points), Crossed([points], (points,), {"a": points})
        points[0]["n"] = 5
        points.append({})
        self.assertEqual(made, Fails(0, 0, [{"n": 1}]))
        self.assertEqual((other.line, other.cut, other.other), ([[{"n": 1}]], ([{"n": 1}],), {"a": [{"n": 1}]}))


class TestRuns(unittest.TestCase):

    def check_fails(self, made, line, axis):
        told = runs(made)
        self.assertEqual((told.line, told.axis), (line, axis))
        self.assertIsInstance(told.points, list)
        self.assertIs(is_fails(made, told), True)
        for point in told.points:
            self.assertTrue(all(one.kept_by(point) for one in made.facts()))
            self.assertEqual(list(point), sorted(point))
            self.assertGreater(min(point.values()), 0)
        numbers = numbers_of(told.points, *made.names())
        with self.assertRaises(DoesNotRun) as caught:
            shape_at(made, numbers)
        self.assertEqual(caught.exception.line, line)

    def test_split_and_drop(self):
        for given, sizes_there, right in (((), "n m", False), ((), "n m k", False), (("n = 1",), "k", True), (("n*m = n*k",), "m", False),
                                          (("n*m = n*k",), "m n", True), ((), "k n", True), ((), "1 k 1 n", True), ((), "n*k", True),
                                          (("k | m", "m | k"), "n m", True), (("k | m",), "n m", False), (("n | k",), "k", False)):
            made = program({"x": "m n*k"}, ("a", "split", "x", 1, sizes(sizes_there)), given=given)
            self.assertEqual(runs(made), Runs()) if right else self.check_fails(made, 0, 1)
        for given, right in (((), False), (("m | n",), False), (("m | 1",), True), (("m*n = n",), True), (("m^2 | m",), True)):
            made = program({"x": "n m"}, ("a", "drop", "x", 1), given=given)
            self.assertEqual(runs(made), Runs()) if right else self.check_fails(made, 0, 1)

    def test_pairs(self):
        for inputs, arrays, given, axis in (
                ({"x": "n m", "y": "n m"}, "x y", (), None), ({"x": "n m", "y": "m"}, "x y", (), None), ({"x": "n m", "y": "n"}, "x y", (), 1),
                ({"x": "n m", "y": "n 1"}, "x y", (), None), ({"x": "n m", "y": "n"}, "y x", (), 1), ({"x": "n m", "y": "k m"}, "x y", (), 0),
                ({"x": "n m", "y": "k m"}, "x y", ("k = n",), None), ({"x": "n m", "y": "k m"}, "x y", ("k | 1",), None),
                ({"x": "n m", "y": "k m"}, "y x", ("k*n = n",), None), ({"x": "n m", "y": "k m"}, "x y", ("k | n", "n | k^2"), 0),
                ({"x": "n m", "y": "k a"}, "x y", (), 1), ({"x": "n m", "y": "k a"}, "x y", ("a = m",), 0),
                ({"x": "m", "y": "a b c"}, "x y", (), 2), ({"x": "m", "y": "a b c", "z": "b m"}, "x z y", (), 2),
                ({"x": "m", "y": "a b m", "z": "k m"}, "x z y", (), 1), ({"x": "m", "y": "a 1 m", "z": "k m"}, "x z y", (), None),
                ({"x": "m", "y": "a b m", "z": "k m"}, "y z x", (), 1), ({"x": "1", "y": "n", "z": "m"}, "x y z", (), 0),
                ({"x": "n", "y": "1", "z": "n"}, "x y z", (), None), ({"x": "n*m"}, "x x x", (), None),
                ({"x": "n", "y": "m"}, "x y", ("n*m | n",), None), ({"x": "", "y": "m", "z": "k m"}, "x y z", (), None)):
            made = program(inputs, ("a", "turn", "y" if inputs.get("y") else "x", 0), ("b", "cells", "f", tuple(arrays.split())), given=given)
            self.assertEqual(runs(made), Runs()) if axis is None else self.check_fails(made, 1, axis)

    def test_points_of_a_pair_break_each_way(self):
        made = program({"x": "n", "y": "m"}, ("a", "cells", "f", ("x", "y")), given=("n | m",))
        told = runs(made)
        self.check_fails(made, 0, 0)
        for text in ("n = m", "n = 1", "m = 1"):
            self.assertFalse(fact(text).holds_for(told.points))

    def test_the_first_line_and_the_first_axis(self):
        lines = [("a", "turn", "x", 0), ("b", "cells", "f", ("x", "y", "z")), ("c", "drop", "x", 0)]
        for inputs, line, axis in (({"x": "n m", "y": "k a", "z": "b c"}, 1, 1), ({"x": "n m", "y": "k m", "z": "b c"}, 1, 0),
                                   ({"x": "n m", "y": "n m", "z": "b c"}, 1, 1), ({"x": "n m", "y": "n m", "z": "b m"}, 1, 0),
                                   ({"x": "n m", "y": "m", "z": "b a c"}, 1, 2), ({"x": "n m", "y": "m", "z": "b a m"}, 1, 1),
                                   ({"x": "n m", "y": "m", "z": "b n m"}, 2, 0), ({"x": "1 m", "y": "m", "z": "b n m"}, None, None)):
            made = program(inputs, *lines)
            self.assertEqual(runs(made), Runs()) if line is None else self.check_fails(made, line, axis)

    def test_by_arrays_at_numbers(self):
        failed = 0
        for seed in range(60):
            maker = Maker(seed)
            made = maker.program(6, always=seed % 3 == 0, most_leaves=5)
            told = runs(made)
            for numbers in maker.source.sample(kept_numbers(made, 4), 3) if len(kept_numbers(made, 4)) > 3 else []:
                arrays, failing = arrays_at(made, numbers)
                self.assertTrue(failing is None or told != Runs())
                for name in made.arrays():
                    if name in arrays:
                        self.assertEqual(shape_at(made, numbers, name), arrays[name][0])
                        if told == Runs():
                            self.assertEqual(tuple(one.at(numbers) for one in shape(made, name)), arrays[name][0])
                    else:
                        with self.assertRaises(DoesNotRun) as caught:
                            shape_at(made, numbers, name)
                        self.assertEqual(caught.exception.line, failing)
            if told != Runs():
                failed += 1
                self.check_fails(made, told.line, told.axis)
        self.assertGreater(failed, 5)


class TestIsFails(unittest.TestCase):

    def setUp(self):
        self.made = program({"x": "n m", "y": "k m"}, ("a", "turn", "x", 1), ("b", "cells", "f", ("a", "y")), ("c", "drop", "x", 0),
                            given=("k | n",))

    def test_points_that_keep_the_facts_and_break_the_condition(self):
        right = [[{"n": 2, "k": 1}], [{"n": 1}, {"n": 3, "k": 3}], ({"n": 1}, {"n": 3, "k": 3}), [{"n": 2, "k": 1, "m": 0, "zz": 7}],
                 [{"n": 10 ** 40, "k": 1}], [{}, {"n": 5, "k": 4}]]
        for points in right:
            self.assertIs(is_fails(self.made, Fails(1, 0, points)), True, points)
        wrong = [[], [{}], [{"n": 1}], [{"n": 1, "k": 1}], [{"n": 1, "k": 2}], [{"n": 2, "k": 1}, {"k": 1}], [{"n": 2, "k": True}], {"n": 2, "k": 1},
                 [{"n": 2, "k": -1}], [None], None, [[{"n": 2, "k": 1}]], "n", [{"N": 2}], [{"n": 2, "k": 1}, {"n": "1"}]]
        for points in wrong + odd_values():
            self.assertIs(is_fails(self.made, Fails(1, 0, points)), False, points)

    def test_the_line_and_the_axis(self):
        points = [{"n": 2, "k": 1}]
        for line, axis in ((0, 0), (2, 0), (1, 1), (1, -2), (True, 0), (1, False), ("1", 0), (1, None), (None, 0), ([1], 0), (Box(), 0), (1, Box())):
            self.assertIs(is_fails(self.made, Fails(line, axis, points)), False)
        self.assertIs(is_fails(program=self.made, value=Fails(1, 0, points)), True)

    def test_other_values(self):
        for value in odd_values() + [Runs(), (1, 0, [{"n": 2, "k": 1}]), [1, 0, [{"n": 2, "k": 1}]], Crossed(1, 0, [{"n": 2, "k": 1}])]:
            self.assertIs(is_fails(self.made, value), False)

    def test_none_is_right_if_the_program_runs(self):
        for points in ([], [{}], [{"n": 2, "k": 1}]):
            self.assertIs(is_fails(self.made.only("a"), Fails(1, 0, points)), False)
            self.assertIs(is_fails(self.made.only("a"), Fails(None, None, points)), False)


class TestShape(unittest.TestCase):

    def test_as_the_lines_write_it(self):
        made = program({"x": "n*k m", "y": "a m"}, ("a", "merge", "x", 0, 2), ("b", "split", "x", 0, sizes("k 1 n")), ("c", "spread", "b", 4, ONE),
                       ("d", "pick", "c", 2), ("e", "permute", "d", (3, 1, 0, 2)), ("f", "sum", "e", (0, 2)), ("g", "turn", "f", 1),
                       ("h", "cells", "f", ("x", "y")), ("i", "cells", "f", ("y", "x")), ("j", "drop", "c", 1), ("l", "merge", "b", 1, 1),
                       ("o", "split", "x", 1, sizes("q")), given=("a = n*k", "m = q"))
        for name, told in (("x", "n*k m"), ("a", "k*m*n"), ("b", "k 1 n m"), ("c", "k 1 n m 1"), ("d", "k 1 m 1"), ("e", "1 1 k m"), ("f", "1 m"),
                           ("g", "1 m"), ("h", "n*k m"), ("i", "a m"), ("j", "k n m 1"), ("l", "k 1 n m"), ("o", "n*k q"), (None, "n*k q")):
            self.assertEqual(shape(made, name), sizes(told.replace("n*k", "k*n")))
            self.assertIsInstance(shape(program=made, name=name), tuple)

    def test_cells(self):
        for inputs, given, told in (({"x": "n", "y": "m"}, ("n = m",), "n"), ({"x": "n", "y": "m"}, ("n | 1",), "m"), ({"x": "n", "y": "m"}, ("m | 1",), "n"),
                                    ({"x": "n", "y": "m"}, ("m | 1", "n | 1"), "n"), ({"x": "", "y": "m k"}, (), "m k"), ({"x": "k", "y": "m 1"}, (), "m k"),
                                    ({"x": "k", "y": "m 1"}, ("m = 1",), "1 k"), ({"x": "m k", "y": "1"}, ("m = 1",), "m k"),
                                    ({"x": "1", "y": "m", "z": "k"}, ("k = m",), "m"), ({"x": "n", "y": "m", "z": "k"}, ("n = 1", "k = m"), "m")):
            made = program(inputs, ("a", "cells", "f", tuple(inputs)), given=given)
            self.assertEqual(shape(made), sizes(told))

    def test_a_program_that_fails(self):
        made = program({"x": "n m"}, ("a", "turn", "x", 0), ("b", "drop", "x", 0), ("c", "turn", "x", 0))
        for name in ("x", "a", "b", "c", None):
            with self.assertRaises(DoesNotRun) as caught:
                shape(made, name)
            self.assertEqual(caught.exception.line, 1)
        for value in NO_ARRAYS:
            for call in (lambda name: shape(made, name), lambda name: shape_at(made, None, name)):
                with self.assertRaises(UnknownArray) as caught:
                    call(value)
                self.assertIs(caught.exception.name, value)


class TestShapeAt(unittest.TestCase):

    def setUp(self):
        self.made = program({"x": "n m^2", "y": "k"}, ("a", "turn", "x", 0), ("b", "split", "x", 1, sizes("k m")), ("c", "merge", "b", 0, 3),
                            given=("1 | q", "n | m", "m | n*k"))

    def test_sizes(self):
        numbers = {"n": 2, "m": 4, "k": 2, "q": 7, "zz": 9}
        for name, told in (("x", (2, 16)), ("y", (2,)), ("a", (2, 16))):
            self.assertEqual(shape_at(self.made, numbers, name), told)
        for name in ("b", "c", None):
            with self.assertRaises(DoesNotRun) as caught:
                shape_at(self.made, numbers, name)
            self.assertEqual(caught.exception.line, 1)
        self.assertEqual(shape_at(program=self.made, numbers={"n": 2, "m": 4, "k": 4, "q": 7}), (32,))
        self.assertEqual(shape_at(self.made, {"n": 2, "m": 4, "k": 4, "q": 7}, name="b"), (2, 4, 4))
        big = 10 ** 29
        self.assertEqual(shape_at(self.made, {"n": big, "m": big, "k": big, "q": 1}, "b"), (big, big, big))

    def test_numbers(self):
        for value in no_dicts() + [{}, {"n": 2, "m": 4, "k": 2}, {"n": 2, "m": 4, "k": 2, "q": 0}, {"n": 2, "m": 4, "k": 2, "q": True},
                                   {"n": 2, "m": 4, "k": 2, "q": "1"}, {"n": 2, "m": 4, "k": 2, "q": 1, "Z": 1}]:
            for name in ("x", "c", None):
                with self.assertRaises(InvalidNumbers) as caught:
                    shape_at(self.made, value, name)
                self.assertIs(caught.exception.value, value)

    def test_numbers_come_ahead_of_facts_and_lines(self):
        made = program({"x": "n m"}, ("a", "drop", "x", 0), ("b", "spread", "x", 0, K), given=("n | m",))
        for name in ("x", "a", "b"):
            with self.assertRaises(InvalidNumbers):
                shape_at(made, {"n": 2, "m": 3}, name)
            with self.assertRaises(BrokenFact):
                shape_at(made, {"n": 2, "m": 3, "k": 1}, name)

    def test_facts(self):
        for numbers, position in (({"n": 3, "m": 4, "k": 1, "q": 1}, 1), ({"n": 2, "m": 4, "k": 1, "q": 1}, 2), ({"n": 3, "m": 2, "k": 5, "q": 5}, 1)):
            for name in ("x", "c", None):
                with self.assertRaises(BrokenFact) as caught:
                    shape_at(self.made, numbers, name)
                self.assertEqual(caught.exception.position, position)

    def test_numbers_are_equal_though_sizes_are_not(self):
        made = program({"x": "n", "y": "m"}, ("a", "cells", "f", ("x", "y")), ("b", "drop", "a", 0))
        for n, m, told in ((3, 3, (3,)), (1, 3, (3,)), (3, 1, (3,)), (1, 1, (1,))):
            self.assertEqual(shape_at(made, {"n": n, "m": m}, "a"), told)
        self.assertEqual(shape_at(made, {"n": 1, "m": 1}), ())
        for numbers, line in (({"n": 2, "m": 3}, 0), ({"n": 2, "m": 2}, 1)):
            with self.assertRaises(DoesNotRun) as caught:
                shape_at(made, numbers)
            self.assertEqual(caught.exception.line, line)


if __name__ == "__main__":
    unittest.main()
