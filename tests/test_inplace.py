"""Arrays that are done in place of an input."""

import itertools
import random
import unittest

from anyshape.failures import DoesNotRun, UnknownArray
from anyshape.memory import HasWord, InPlace, OtherSize, Overwritten, in_place
from anyshape.places import Crossed
from anyshape.sizes import Size
from makers import Maker, arrays_at, kept_numbers
from sums import keeps, size
from test_nodes import BOTH, TWO_WAYS
from test_places import CROSSING
from test_shapes import Box, program
from values import odd_values

N, M, K, ONE = size("n"), size("m"), size("k"), Size()


def leaves_of(term):
    """The tuples (input, number) in a term without words, from left to right."""
    return [term[1:]] if term[0] == "in" else [read for part in term[2] for read in leaves_of(part)]


def done(cells, source, order):
    """The cells of the input when the cells of the array were written into them in this sequence."""
    memory = [("in", source, number) for number in range(len(cells))]

    def calculated(term):
        if term[0] == "let":
            return "let", term[1], tuple(calculated(part) for part in term[2])
        return memory[term[2]] if term[1] == source else term
    for number in order:
        memory[number] = calculated(cells[number])
    return memory


class TestInPlace(unittest.TestCase):

    def cells(self, made, numbers):
        return list(arrays_at(made, numbers)[0][made.result][1].values())

    def check_safe(self, made, source="x"):
        self.assertEqual(in_place(made, source), InPlace())
        for numbers in kept_numbers(made, 5)[:25]:
            cells = self.cells(made, numbers)
            chance = random.Random(1)
            orders = [list(range(len(cells))), list(range(len(cells)))[::-1]]
            orders += [chance.sample(range(len(cells)), len(cells)) for _ in range(3)]
            for order in orders:
                self.assertEqual(done(cells, source, order), cells)

    def check_overwritten(self, made, leaf=None, source="x"):
        found = in_place(made, source)
        self.assertIsInstance(found, Overwritten)
        self.assertIn(leaf, (None, found.leaf))
        self.assertTrue(all(keeps(found.point, fact) for fact in made.facts()))
        self.assertEqual(list(found.point), sorted(found.point))
        cells = self.cells(made, {name: 2 ** found.point.get(name, 0) for name in made.names()})
        number = 0 if found.bit is None else 2 ** found.bit
        read = leaves_of(cells[number])[found.leaf]
        self.assertEqual(read[0], source)
        self.assertNotEqual(read[1], number)
        self.assertNotEqual(cells[read[1]], ("in", source, read[1]))
        order = [read[1]] + [other for other in range(len(cells)) if other != read[1]]
        self.assertNotEqual(done(cells, source, order), cells)

    def test_leaves_of_this_input(self):
        x = {"x": "n m"}
        self.check_safe(program(x))
        self.check_safe(program(x, ("a", "merge", "x", 0, 2), ("b", "split", "a", 0, (M, N))))
        self.check_safe(program(x, ("a", "pick", "x", 0), ("b", "spread", "a", 0, N)))
        self.check_safe(program(x, ("a", "turn", "x", 0), ("b", "pick", "a", 0), ("c", "spread", "b", 0, N)))
        self.check_safe(program(x, ("a", "turn", "x", 0), ("b", "turn", "a", 1), ("c", "pick", "b", 0), ("d", "pick", "c", 0), ("e", "spread", "d", 0, M), ("f", "spread", "e", 1, N)))
        self.check_safe(program(x, ("a", "permute", "x", (1, 0)), given=("n = 1",)))
        self.check_overwritten(program(x, ("a", "permute", "x", (1, 0))), 0)
        self.check_overwritten(program(x, ("a", "permute", "x", (1, 0)), given=("n = m",)), 0)
        self.check_overwritten(program(x, ("a", "turn", "x", 0)), 0)
        self.check_overwritten(program(x, ("a", "turn", "x", 1)), 0)
        self.check_overwritten(program(x, ("a", "pick", "x", 0), ("b", "spread", "a", 1, N)), 0)
        self.check_overwritten(program(x, ("t", "turn", "x", 0), ("a", "pick", "t", 0), ("b", "turn", "a", 0), ("c", "spread", "b", 0, N)), 0)
        self.check_overwritten(program(x, ("t", "turn", "x", 1), ("a", "pick", "t", 1), ("b", "spread", "a", 0, M)), 0)

    def test_letters(self):
        x = {"x": "n m", "y": "m n"}
        self.check_safe(program(x, ("a", "cells", "f", ("x",))))
        self.check_safe(program(x, ("t", "permute", "y", (1, 0)), ("u", "turn", "t", 0), ("a", "cells", "f", ("x", "u", "x")), ("b", "cells", "g", ("a",))))
        self.check_safe(program(x, ("p", "pick", "y", 0), ("q", "spread", "p", 1, M), ("a", "cells", "f", ("q", "x"))))
        self.check_overwritten(program(x, ("t", "turn", "x", 0), ("a", "cells", "f", ("x", "t"))), 1)
        self.check_overwritten(program(x, ("t", "permute", "x", (1, 0)), ("a", "cells", "f", ("t",))), 0)
        self.check_overwritten(program(x, ("t", "pick", "x", 0), ("a", "cells", "f", ("y", "t")), ("b", "permute", "a", (1, 0)), given=("m = n",)), 1)
        self.check_overwritten(program(x, ("t", "pick", "x", 0), ("a", "cells", "f", ("x", "t"))), 1)
        self.check_overwritten(program(x, ("t", "turn", "x", 1), ("p", "pick", "t", 1), ("q", "spread", "p", 1, M), ("a", "cells", "f", ("q", "x"))), 0)
        self.check_overwritten(program(x, ("t", "pick", "x", 0), ("u", "turn", "x", 0), ("a", "cells", "f", ("y", "x", "y")), ("b", "cells", "f", ("a", "u")), given=("m = n",)), 3)

    def test_leaves_of_other_inputs(self):
        x = {"x": "n m", "y": "m n"}
        self.check_safe(program(x), "x")
        self.check_safe(program(x, ("a", "turn", "x", 0)), "y")
        self.check_safe(program(x, ("a", "turn", "x", 0), ("b", "cells", "f", ("a", "x"))), "y")
        self.check_overwritten(program(x, ("a", "permute", "y", (1, 0))), 0, "y")

    def test_other_sizes(self):
        for lines, given in (([("a", "spread", "x", 0, K)], ()), ([("a", "pick", "x", 0)], ()), ([("a", "pick", "x", 0), ("b", "spread", "a", 0, K)], ("n | k",)),
                             ([("a", "pick", "x", 0), ("b", "cells", "f", ("a",))], ("m = k",))):
            made = program({"x": "n m"}, *lines, given=given)
            found = in_place(made, "x")
            self.assertIsInstance(found, OtherSize)
            self.assertTrue(all(keeps(found.point, fact) for fact in made.facts()))
            numbers = {name: 2 ** found.point.get(name, 0) for name in made.names()}
            self.assertNotEqual(len(self.cells(made, numbers)), numbers["n"] * numbers["m"])
        self.assertIsInstance(in_place(program({"x": "n", "y": "m"}), "x"), OtherSize)
        self.assertEqual(in_place(program({"x": "n", "y": "m"}, given=("m = n",)), "x"), InPlace())
        self.assertEqual(in_place(program({"x": "n m"}, ("a", "pick", "x", 0), given=("n | 1",)), "x"), InPlace())

    def test_sequence(self):
        crossed = program({"x": "n m", "q": "k"}, *CROSSING)
        for source in ("x", "q"):
            self.assertEqual(in_place(crossed, source), Crossed(3, M, N))
            self.assertEqual(in_place(crossed.extended(("s", "sum", "w", (0,))), source), Crossed(3, M, N))
        made = program({"x": "n m"}, ("a", "turn", "x", 0), ("s", "sum", "a", (0,)), ("b", "spread", "s", 0, N), ("c", "cells", "f", ("b", "a")))
        self.assertEqual(in_place(made, "x", "s"), HasWord())
        self.assertEqual(in_place(made, "x"), HasWord())
        self.assertIsInstance(in_place(made, "x", "a"), Overwritten)
        self.assertEqual(in_place(made, "x", "x"), InPlace())
        self.assertEqual(in_place(program({"x": "n 1"}, ("s", "sum", "x", (1,))), "x"), InPlace())
        self.assertEqual(in_place(program(BOTH, *TWO_WAYS), "x").__class__, Overwritten)

    def test_errors(self):
        with self.assertRaises(UnknownArray) as caught:
            in_place(program({"x": "n"}), None)
        self.assertIsNone(caught.exception.name)
        made = program({"x": "n m"}, ("a", "drop", "x", 0), ("b", "turn", "a", 0))
        for value in [None, "a", "b", "w", "", 0, [], {}, ["x"], ("x",), Box()] + odd_values():
            for name in (None, "w", "x"):
                with self.assertRaises(UnknownArray) as caught:
                    in_place(made, value, name)
                self.assertIs(caught.exception.name, value)
        with self.assertRaises(UnknownArray) as caught:
            in_place(program=made, source="x", name="w")
        self.assertEqual(caught.exception.name, "w")
        with self.assertRaises(DoesNotRun) as caught:
            in_place(made, "x", "x")
        self.assertEqual(caught.exception.line, 0)

    def test_random_ones(self):
        seen = {}
        for seed in range(400):
            made = Maker(seed).program(5, facts=2)
            for (source, _), name in itertools.product(made.inputs(), made.arrays()):
                only = made if made.line_of(name) is None else made.only(name)
                if only.result != name:
                    continue
                found = in_place(only, source)
                seen[found.__class__] = seen.get(found.__class__, 0) + 1
                if isinstance(found, InPlace):
                    self.check_safe(only, source)
                elif isinstance(found, Overwritten):
                    self.check_overwritten(only, source=source)
                self.assertEqual(in_place(made, source, name).__class__, found.__class__)
        self.assertGreater(seen[InPlace], 100)
        self.assertGreater(seen[Overwritten], 80)
        self.assertGreater(seen[OtherSize], 100)


if __name__ == "__main__":
    unittest.main()
