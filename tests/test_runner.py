"""The runner: cells, costs and values of arrays at given numbers."""

import itertools
import unittest

from anyshape.errors import InvalidContents, InvalidIndex, InvalidMeanings, InvalidNumbers, InvalidPositions, InvalidProgram
from anyshape.failures import BrokenFact, DoesNotRun, TooMany, UnknownArray
from anyshape.programs import Program
from anyshape.runner import Runner
from anyshape.sizes import Size
from anyshape.terms import is_term
from makers import Maker, arrays_at, kept_numbers, positions_in
from sums import fact, facts, size
from values import no_dicts, no_lists, odd_values

N, M = size("n"), size("m")
NO_ARRAYS = [value for value in odd_values() if value is not None] + [0, 1, "w", ["x"], ("x",), {"x": 1}]


def sizes(texts):
    return tuple(size(text) for text in texts.split())


LINES = [("a", "merge", "x", 0, 2), ("b", "split", "a", 0, sizes("m n")), ("c", "permute", "z", (2, 0, 1)), ("d", "turn", "z", 1),
         ("e", "pick", "z", 1), ("f", "spread", "z", 1, N), ("g", "drop", "y", 1), ("h", "cells", "f", ("x", "y", "g")),
         ("i", "sum", "z", (0, 2)), ("j", "greatest", "z", (1,)), ("k", "least", "f", (0, 1, 3)), ("l", "sum", "i", (0,)),
         ("o", "cells", "g", ("i",)), ("p", "sum", "j", (0, 1)), ("q", "merge", "c", 1, 1), ("r", "spread", "x", 0, M),
         ("s", "cells", "g", ("e", "f")), ("t", "greatest", "s", (2, 3)), ("u", "sum", "y", (1,))]
INPUTS = [("x", sizes("n m")), ("y", sizes("m 1")), ("z", sizes("n m k"))]


class TestCells(unittest.TestCase):

    def check(self, made, numbers):
        """Whether all cells of all arrays are those that are made here; the number of arrays."""
        runner = Runner(made, numbers)
        arrays, failing = arrays_at(made, numbers)
        self.assertEqual(runner.failing, failing)
        for name in made.arrays():
            self.assertIs(name in runner, name in arrays)
            if name not in arrays:
                continue
            shape, cells = arrays[name]
            self.assertEqual(runner.shape(name), shape)
            if len(cells) * runner.cost(name) > 2000:
                continue
            self.assertEqual(list(runner.walk(name)), list(cells.items()))
            for number, (at, cell) in enumerate(cells.items()):
                self.assertEqual(runner.cell(at, name), cell)
                self.assertEqual(runner.cell_at(number, name), cell)
                self.assertIs(is_term(cell), True)
        return len(arrays)

    def test_each_kind_of_line(self):
        made = Program(INPUTS, LINES)
        for numbers in ({"n": 2, "m": 2, "k": 2}, {"n": 3, "m": 2, "k": 1}, {"n": 1, "m": 3, "k": 2}, {"n": 1, "m": 1, "k": 1}):
            # The line of h joins axes with the sizes n and m.
            runs = numbers["n"] == numbers["m"] or 1 in (numbers["n"], numbers["m"])
            self.assertEqual(self.check(made, numbers), len(made.arrays()) if runs else 10)

    def test_by_chance(self):
        for seed in range(60):
            maker = Maker(seed)
            made = maker.program(8, always=seed % 3 != 0)
            there = kept_numbers(made, 4)
            for numbers in maker.source.sample(there, min(3, len(there))):
                self.check(made, numbers)

    def test_cells_by_hand(self):
        made = Program([("x", sizes("n m"))], [("a", "turn", "x", 1), ("b", "cells", "f", ("x", "a")), ("c", "least", "b", (0,)), ("d", "sum", "b", (0, 1))])
        runner = Runner(made, {"n": 2, "m": 3})
        self.assertEqual(runner.cell([1, 2], "x"), ("in", "x", 5))
        self.assertEqual(runner.cell((1, 2), name="a"), ("in", "x", 3))
        self.assertEqual(runner.cell(positions=[0, 0], name="b"), ("let", "f", (("in", "x", 0), ("in", "x", 2))))
        self.assertEqual(runner.cell_at(number=1, name="c"), ("least", (("let", "f", (("in", "x", 1), ("in", "x", 1))),
                                                                       ("let", "f", (("in", "x", 4), ("in", "x", 4))))))
        self.assertEqual((len(runner.cell(())[1]), runner.cell([]), runner.shape(), runner.cost()), (6, runner.cell_at(0), (), 12))
        self.assertEqual(list(runner.walk()), [((), runner.cell([]))])

    def test_great_sizes(self):
        big = 10 ** 29
        made = Program([("x", sizes("n m"))], [("a", "permute", "x", (1, 0)), ("b", "merge", "a", 0, 2), ("c", "turn", "b", 0), ("d", "spread", "c", 0, N)])
        runner = Runner(made, {"n": big, "m": big + 1})
        self.assertEqual(runner.shape("c"), (big * (big + 1),))
        self.assertEqual(runner.cell([1, big * (big + 1) - 2]), ("in", "x", big + 1))
        self.assertEqual(runner.cell_at(big * (big + 1) * big - 1), ("in", "x", 0))
        self.assertEqual(runner.cell_at(0, "c"), ("in", "x", big * (big + 1) - 1))


class TestToldAndRefused(unittest.TestCase):

    def setUp(self):
        self.made = Program([("x", sizes("n m")), ("y", sizes("k"))],
                            [("a", "sum", "x", (1,)), ("b", "cells", "f", ("x", "y")), ("c", "turn", "a", 0), ("d", "cells", "g", ("a", "c"))],
                            facts("n | m"))
        self.numbers = {"n": 2, "m": 6, "k": 6, "zz": 8}
        self.runner = Runner(self.made, self.numbers)

    def test_told(self):
        runner = self.runner
        self.assertEqual((runner.program, runner.numbers, runner.failing), (self.made, {"k": 6, "m": 6, "n": 2}, None))
        self.assertEqual(list(runner.numbers), ["k", "m", "n"])
        self.assertEqual([runner.cost(name) for name in ("x", "y", "a", "b", "c", "d", None)], [1, 1, 6, 2, 6, 12, 12])
        self.assertEqual((runner.shape(), runner.shape("b"), runner.shape(name="x")), ((2,), (2, 6), (2, 6)))
        for value in NO_ARRAYS + [None]:
            self.assertIs(value in runner, False)
        self.assertTrue(all(name in runner for name in "xyabcd"))

    def test_equality(self):
        self.assertEqual(self.runner, Runner(program=self.made, numbers={"k": 6, "m": 6, "n": 2}))
        for other in (Runner(self.made, {"n": 3, "m": 6, "k": 6}), Runner(self.made.only("c"), self.numbers), self.made, None):
            self.assertFalse(self.runner == other)
            self.assertTrue(self.runner != other)

    def test_what_was_passed_or_returned_may_change(self):
        self.numbers["n"] = 3
        self.runner.numbers["n"] = 3
        self.assertEqual((self.runner.numbers["n"], self.runner.shape()), (2, (2,)))
        for name in ("program", "numbers", "failing"):
            with self.assertRaises(AttributeError):
                setattr(self.runner, name, None)

    def check(self, kind, values, call):
        with self.assertRaises(kind) as caught:
            call()
        for name, value in values.items():
            self.assertEqual(getattr(caught.exception, name), value)

    def test_creation(self):
        for value in no_dicts() + [[self.made], "Program('d')"]:
            self.check(InvalidProgram, {"value": value}, lambda: Runner(value, None))
        for value in no_dicts() + [{}, {"n": 2, "m": 6}, {"n": 0, "m": 6, "k": 1}, {"n": True, "m": 6, "k": 1}, {"n": 3, "m": 1, "k": 0}]:
            self.check(InvalidNumbers, {"value": value}, lambda: Runner(self.made, value))
        self.check(BrokenFact, {"position": 0}, lambda: Runner(self.made, {"n": 4, "m": 6, "k": 1}))
        self.check(BrokenFact, {"position": 2}, lambda: Runner(self.made.knowing(*facts("n | m", "k | n")), {"n": 2, "m": 6, "k": 6}))

    def test_arrays_that_are_not_made(self):
        runner = Runner(self.made, {"n": 2, "m": 6, "k": 5})
        self.assertEqual(runner.failing, 1)
        self.assertEqual([name in runner for name in "xyabcd"], [True, True, True, False, False, False])
        for name in ("b", "c", "d", None):
            for call in (lambda: runner.shape(name), lambda: runner.cost(name), lambda: runner.cell(None, name), lambda: runner.cell_at(None, name),
                         lambda: list(runner.walk(name)), lambda: runner.cell_values(None, None, name)):
                self.check(DoesNotRun, {"line": 1}, call)
        self.assertEqual((runner.cell([1], "a"), runner.shape("x")), (("sum", tuple(("in", "x", at) for at in range(6, 12))), (2, 6)))
        for value in NO_ARRAYS:
            for call in (lambda: runner.shape(value), lambda: runner.cost(value), lambda: runner.cell(None, value), lambda: runner.cell_at(None, value),
                         lambda: list(runner.walk(value)), lambda: runner.cell_values(None, None, value)):
                with self.assertRaises(UnknownArray) as caught:
                    call()
                self.assertIs(caught.exception.name, value)

    def test_positions_and_numbers(self):
        for value in no_lists() + [[], [0], [0, 0, 0], [0, 6], [2, 0], [-1, 0], [0, True], [False, 0], [0, "0"], [None, 0], {0: 0, 1: 0}, [[0, 0]]]:
            self.check(InvalidPositions, {"value": value}, lambda: self.runner.cell(value, "x"))
        for value in odd_values() + [12, -1, True, "0", [0], (0,), 10 ** 20]:
            self.check(InvalidIndex, {"value": value}, lambda: self.runner.cell_at(value, "x"))
        self.assertEqual(self.runner.cell_at(11, "x"), self.runner.cell([1, 5], "x"))
        one = Runner(Program([("x", ())]), {})
        self.assertEqual((one.cell(()), one.cell_at(0), one.shape(), one.numbers), (("in", "x", 0), ("in", "x", 0), (), {}))
        for value in ([0], None, [()], 0):
            self.check(InvalidPositions, {"value": value}, lambda: one.cell(value))
        self.check(InvalidIndex, {"value": 1}, lambda: one.cell_at(1))

    def test_a_walk_raises_when_the_iteration_begins(self):
        for walk, kind in ((self.runner.walk("w"), UnknownArray), (Runner(self.made, {"n": 2, "m": 6, "k": 5}).walk(), DoesNotRun)):
            with self.assertRaises(kind):
                next(walk)


class TestLimits(unittest.TestCase):

    MADE = Program([("x", sizes("n m")), ("y", sizes("k"))],
                   [("a", "sum", "x", (0,)), ("b", "least", "a", (0,)), ("c", "cells", "f", ("b", "b")), ("d", "cells", "g", ("x",)), ("e", "cells", "f", ("y", "y"))])

    def check(self, kind, limit, call):
        with self.assertRaises(TooMany) as caught:
            call()
        self.assertEqual((caught.exception.kind, caught.exception.limit), (kind, limit))

    def test_cells(self):
        runner = Runner(self.MADE, {"n": 64, "m": 64, "k": 1})
        self.assertEqual(len(list(runner.walk("x"))), 4096)
        runner = Runner(self.MADE, {"n": 17, "m": 241, "k": 4097})
        for name in ("x", "d"):
            self.check("cells", 4096, lambda: list(runner.walk(name)))
            self.assertEqual(runner.cell_at(4096, "x"), ("in", "x", 4096))
        self.check("cells", 4096, lambda: next(runner.walk("y")))

    def test_terms(self):
        runner = Runner(self.MADE, {"n": 100, "m": 200, "k": 1})
        self.assertEqual((runner.cost("b"), len(runner.cell([], "b")[1])), (20000, 200))
        self.assertEqual(len(list(runner.walk("a"))), 200)
        self.assertEqual(runner.cell_at(0, "b"), runner.cell([], "b"))
        for call in (lambda: runner.cell([], "c"), lambda: runner.cell_at(0, "c"), lambda: list(runner.walk("c"))):
            self.check("terms", 20000, call)
        self.check("cells", 4096, lambda: list(runner.walk("d")))
        runner = Runner(self.MADE, {"n": 101, "m": 199, "k": 1})
        self.check("terms", 20000, lambda: runner.cell([], "b"))
        self.check("terms", 20000, lambda: list(runner.walk("a")))
        self.assertEqual(len(runner.cell_at(3, "a")[1]), 101)
        with self.assertRaises(InvalidPositions):
            runner.cell([0], "b")
        with self.assertRaises(InvalidIndex):
            runner.cell_at(1, "b")

    def test_values(self):
        runner = Runner(self.MADE, {"n": 2, "m": 1, "k": 300})
        contents = {"x": [3, 4], "y": list(range(300))}
        self.assertEqual(runner.cell_values(contents, {"f": lambda one, other: one * other}, "e"), [number * number for number in range(300)])
        runner = Runner(self.MADE, {"n": 1, "m": 1, "k": 4097})
        contents = {"x": [3], "y": [1] * 4097}
        self.check("cells", 4096, lambda: runner.cell_values(contents, {"f": lambda one, other: 0}, "e"))
        with self.assertRaises(InvalidMeanings):
            runner.cell_values(contents, {}, "e")
        runner = Runner(self.MADE, {"n": 200, "m": 101, "k": 1})
        contents = {"x": [1] * 20200, "y": [1]}
        self.check("terms", 20000, lambda: runner.cell_values(contents, {}, "a"))
        with self.assertRaises(InvalidContents):
            runner.cell_values({}, {}, "a")


class TestValues(unittest.TestCase):

    def setUp(self):
        self.made = Program([("x", sizes("n m")), ("y", sizes("m"))],
                            [("a", "cells", "f", ("x", "y")), ("b", "cells", "g", ("y",)), ("c", "sum", "a", (1,)), ("d", "cells", "e", ("c", "c", "a")),
                             ("h", "greatest", "a", (0, 1)), ("i", "least", "a", (0,))])
        self.runner = Runner(self.made, {"n": 2, "m": 2})
        self.contents = {"x": [1, -2, 30, 4], "y": (5, 6)}
        self.meanings = {"f": lambda one, other: one * 10 - other, "g": lambda one: -one, "e": lambda one, two, three: one + two * three}

    def test_values(self):
        for name, told in (("x", [1, -2, 30, 4]), ("y", [5, 6]), ("a", [5, -26, 295, 34]), ("b", [-5, -6]), ("c", [-21, 329]), ("h", [295]),
                           ("i", [5, -26]), ("d", [-126, -8225, -6216, 11515])):
            self.assertEqual(self.runner.cell_values(self.contents, self.meanings, name), told)
        self.assertEqual(self.runner.cell_values(contents=self.contents, meanings=self.meanings), [5, -26])

    def test_values_of_arrays_made_here(self):
        for seed in range(40):
            maker = Maker(seed)
            made = maker.program(7)
            for numbers in kept_numbers(made, 3)[-2:]:
                arrays, _ = arrays_at(made, numbers)
                runner = Runner(made, numbers)
                contents = {name: [maker.source.randint(-9, 9) for _ in positions_in(arrays[name][0])] for name, _ in made.inputs()}
                if len(arrays[made.result][1]) * runner.cost() > 3000:
                    continue
                meanings = {"f": lambda *told: sum(told) * 3 - told[0], "g": lambda *told: told[-1] - 2 * told[0]}
                told = [self.value(cell, contents, meanings) for cell in arrays[made.result][1].values()]
                self.assertEqual(runner.cell_values(contents, meanings), told)

    def value(self, term, contents, meanings):
        """The value of a term."""
        if term[0] == "in":
            return contents[term[1]][term[2]]
        told = [self.value(part, contents, meanings) for part in term[-1]]
        return meanings[term[1]](*told) if term[0] == "let" else {"sum": sum, "greatest": max, "least": min}[term[0]](told)

    def check(self, kind, attribute, value, contents, meanings, name=None):
        with self.assertRaises(kind) as caught:
            self.runner.cell_values(contents, meanings, name)
        self.assertEqual(getattr(caught.exception, attribute), value)

    def test_contents(self):
        for value in no_dicts() + [{}, {"x": [1, 2, 3, 4]}, {"x": [1, 2, 3, 4], "z": [5, 6]}, {"x": [1, 2, 3, 4], "y": [5, 6], "z": []},
                                   {"x": [1, 2, 3, 4], 0: [5, 6]}, [("x", []), ("y", [])]]:
            self.check(InvalidContents, "name", None, value, None)
        for value in no_lists() + [[], [1, 2, 3], [1, 2, 3, 4, 5], [1, 2, 3, True], [1, 2, 3, None], [[1, 2], [3, 4]], "1234", {0: 1, 1: 1, 2: 1, 3: 1}]:
            self.check(InvalidContents, "name", "x", {"x": value, "y": value}, None)
            self.check(InvalidContents, "name", "x", {"y": value, "x": value}, None)
        for value in no_lists() + [[1], [1, False], [1, 2, 3]]:
            self.check(InvalidContents, "name", "y", {"x": [1, 2, 3, 4], "y": value}, None)

    def test_meanings(self):
        for value in no_dicts() + [["f"], "f"]:
            self.check(InvalidMeanings, "letter", None, self.contents, value)
        for name, meanings, letter in ((None, {}, "f"), ("d", {}, "e"), ("d", {"e": None}, "f"), ("b", {"f": None}, "g"), ("d", {"f": None}, "e"), ("c", {"e": None}, "f")):
            self.check(InvalidMeanings, "letter", letter, self.contents, meanings, name)
        self.assertEqual(self.runner.cell_values(self.contents, {"f": lambda one, other: 7, "g": 5, 3: None}, "c"), [14, 14])
        self.assertEqual(self.runner.cell_values(self.contents, {}, "x"), [1, -2, 30, 4])


if __name__ == "__main__":
    unittest.main()
