"""Programs: which inputs, lines and facts are right, the limits, and what a program tells."""

import unittest

from anyshape.errors import InvalidFacts, InvalidInputs, InvalidLine
from anyshape.failures import TooMany, UnknownArray
from anyshape.goals import Both
from anyshape.programs import Program
from anyshape.sizes import Size
from sums import fact, facts, size
from values import no_counts, no_lists, no_names, odd_values

N, M, K = size("n"), size("m"), size("k")
INPUTS = [("x", (N, M)), ("y", ()), ("z", (N, M * K, K, Size()))]
ROOT = Program(INPUTS)
NO_SIZES = odd_values() + [0, 1, "n", {"n": 1}, size("n^-1"), size("m^-1*n"), (N,), fact("n | m")]
RIGHT = [("a", "merge", "x", 0, 1), ("a", "merge", "x", 0, 2), ("a", "merge", "x", 1, 1), ("a", "merge", "z", 1, 3),
         ("a", "split", "x", 0, (N,)), ("a", "split", "x", 1, (Size(), M, K)), ("a", "split", "z", 3, (N, M)),
         ("a", "permute", "x", (0, 1)), ("a", "permute", "x", (1, 0)), ("a", "permute", "y", ()), ("a", "permute", "z", (3, 1, 0, 2)),
         ("a", "turn", "x", 0), ("a", "turn", "x", 1), ("a", "pick", "z", 3), ("a", "drop", "x", 0), ("a", "drop", "z", 3),
         ("a", "spread", "x", 0, N), ("a", "spread", "x", 2, Size()), ("a", "spread", "y", 0, size("a^9*b")),
         ("a", "cells", "f", ("x",)), ("a", "cells", "x", ("y", "x", "z")), ("a", "cells", "a", ("x", "x")),
         ("a", "sum", "x", (0,)), ("a", "sum", "x", (0, 1)), ("a", "greatest", "z", (0, 2, 3)), ("a", "least", "x", (1,)),
         ("merge", "merge", "x", 0, 1), ("sum", "sum", "x", (1,)), ("abcdefgh", "turn", "x", 0)]
COUNTS = [2, 1, 2, 2, 2, 4, 5, 2, 2, 0, 4, 2, 2, 3, 1, 3, 3, 3, 1, 2, 4, 2, 1, 0, 1, 1, 2, 1, 2]
WRONG = [("a", "merge", "x", 0, 0), ("a", "merge", "x", 0, 3), ("a", "merge", "x", 1, 2), ("a", "merge", "x", 2, 1),
         ("a", "merge", "x", -1, 1), ("a", "merge", "y", 0, 1), ("a", "merge", "x", False, 1), ("a", "merge", "x", 0, True),
         ("a", "merge", "x", 0), ("a", "merge", "x", 0, 1, 1), ("a", "merge", "x", "0", 1), ("a", "merge", "x", 0, "1"),
         ("a", "split", "x", 0, ()), ("a", "split", "x", 0, [N]), ("a", "split", "x", 2, (N,)), ("a", "split", "x", True, (N,)),
         ("a", "split", "x", 0, N), ("a", "split", "x", 0, (N, None)), ("a", "split", "x", 0, (size("n^-1"),)), ("a", "split", "x", 0),
         ("a", "permute", "x", (0,)), ("a", "permute", "x", (0, 0)), ("a", "permute", "x", (0, 2)), ("a", "permute", "x", [0, 1]),
         ("a", "permute", "x", (False, True)), ("a", "permute", "x", (0, 1, 2)), ("a", "permute", "x", ()), ("a", "permute", "y", (0,)),
         ("a", "permute", "x", ("0", 1)), ("a", "permute", "x", 0), ("a", "permute", "x", (-1, 0)), ("a", "permute", "x", (0, 1), ()), ("a", "permute", "w", (0, 1)), ("a", "spread", "w", 0, N),
         ("a", "merge", "w", 0, 1), ("a", "split", "w", 0, (N,)), ("a", "sum", "w", (0,)), ("a", "spread", "x", 0, N, N), ("a", "permute", "x", (None, 1)),
         ("a", "turn", "x", 2), ("a", "turn", "x", -1), ("a", "turn", "y", 0), ("a", "turn", "x", True), ("a", "turn", "x", None),
         ("a", "turn", "x"), ("a", "turn", "x", 0, 0), ("a", "pick", "x", 2), ("a", "pick", "x", False), ("a", "pick", "x", (0,)),
         ("a", "drop", "x", 2), ("a", "drop", "x", True), ("a", "drop", "y", 0), ("a", "drop", "x", 0, 1),
         ("a", "spread", "x", 3, N), ("a", "spread", "x", -1, N), ("a", "spread", "x", 0), ("a", "spread", "x", True, N),
         ("a", "spread", "x", 0, (N,)), ("a", "spread", "x", 0, size("n^-1")), ("a", "spread", "x", 0, 1),
         ("a", "cells", "f", ()), ("a", "cells", "f", ("x",) * 4), ("a", "cells", "f", ["x"]), ("a", "cells", "F", ("x",)),
         ("a", "cells", "f", ("x", "a")), ("a", "cells", "f", "x"), ("a", "cells", ("x",)), ("a", "cells", "f", ("x", ["x"])),
         ("a", "cells", None, ("x",)), ("a", "cells", "f", ("x",), ()), ("a", "cells", "f", (None,)), ("a", "cells", "f", ("x", 0)),
         ("a", "sum", "x", ()), ("a", "sum", "x", [0]), ("a", "sum", "x", (1, 0)), ("a", "sum", "x", (0, 0)), ("a", "sum", "x", (2,)),
         ("a", "sum", "x", 0), ("a", "sum", "x", (True,)), ("a", "sum", "y", (0,)), ("a", "greatest", "x", (0, None)),
         ("a", "least", "x", (-1, 0)), ("a", "least", "x"), ("a", "sum", "x", (0,), 1), ("a", "sum", ("x",), (0,)),
         ("x", "turn", "x", 0), ("z", "turn", "x", 0), ("a", "turn", "a", 0), ("a", "turn", "w", 0), ("a", "turn", None, 0),
         ("a", "turn", ["x"], 0), ("a", "turns", "x", 0), ("a", "Turn", "x", 0), ("a", ["turn"], "x", 0), ("a", None, "x", 0), (),
         ("a",), ("a", "turn"), ["a", "turn", "x", 0], ("A", "turn", "x", 0), ("", "turn", "x", 0), ("abcdefghi", "turn", "x", 0)]


class Checks(unittest.TestCase):

    def check(self, kind, values, *arguments):
        with self.assertRaises(kind) as caught:
            Program(*arguments)
        self.check_error(caught.exception, values)

    def check_error(self, error, values):
        for name, value in values.items():
            self.assertEqual(getattr(error, name), value)
            self.assertIs(isinstance(getattr(error, name), bool), isinstance(value, bool))


class TestInputs(Checks):

    def test_right_ones(self):
        for inputs in ([("x", ())], [("x", (N,))], [("x", (N, N, M, Size())), ("y", (N,)), ("abcdefgh", ())], (("n", (N,)),)):
            self.assertEqual(Program(inputs).inputs(), list(inputs))

    def test_not_a_list_of_one_to_three(self):
        for value in no_lists() + [[], (), [("x", ())] * 4, [None] * 4]:
            self.check(InvalidInputs, {"position": None}, value, None, None)

    def test_wrong_ones(self):
        for name in no_names():
            self.check(InvalidInputs, {"position": 0}, [(name, ())])
        for value in no_lists() + [[N], [], (None,), (N, 1), (size("n^-1"),), (N,) * 5, N]:
            self.check(InvalidInputs, {"position": 1}, [("x", ()), ("y", value), None])
        for value in no_lists() + ["x", ["x", ()], ("x",), ("x", (), ()), (), ((), "x"), ("w", ()), "xy"]:
            self.check(InvalidInputs, {"position": 2}, [("w", ()), ("v", (N,)), value], None)
        for value in NO_SIZES:
            self.check(InvalidInputs, {"position": 0}, [("x", (N, value)), None])


class TestLines(Checks):

    def test_right_ones(self):
        for line, count in zip(RIGHT, COUNTS, strict=True):
            made = Program(INPUTS, [line])
            self.assertEqual((made.lines(), made.result, made.axis_count()), ([line], line[0], count), line)
            self.assertEqual(Program(INPUTS, (line,)), made)
            self.assertEqual(ROOT.extended(line), made)

    def test_wrong_ones(self):
        for line in WRONG + no_lists():
            self.check(InvalidLine, {"position": 0}, INPUTS, [line, None])
            self.check(InvalidLine, {"position": 2}, INPUTS, [("b", "turn", "x", 0), ("c", "merge", "b", 0, 2), line, None])
            with self.assertRaises(InvalidLine) as caught:
                ROOT.extended(("b", "turn", "x", 0)).extended(("c", "turn", "b", 0), line)
            self.check_error(caught.exception, {"position": 2})

    def test_names_of_sizes_letters_and_axes(self):
        for value in no_names():
            self.check(InvalidLine, {"position": 0}, INPUTS, [(value, "turn", "x", 0)])
            self.check(InvalidLine, {"position": 0}, INPUTS, [("a", "turn", value, 0)])
            self.check(InvalidLine, {"position": 0}, INPUTS, [("a", "cells", value, ("x",))])
            self.check(InvalidLine, {"position": 0}, INPUTS, [("a", "cells", "f", ("x", value))])
        for value in no_counts() + [2]:
            for line in (("a", "turn", "x", value), ("a", "pick", "x", value), ("a", "drop", "x", value),
                         ("a", "merge", "x", value, 1), ("a", "split", "x", value, (N,)), ("a", "sum", "x", (value,))):
                self.check(InvalidLine, {"position": 0}, INPUTS, [line])
        for value in NO_SIZES:
            for line in (("a", "split", "x", 0, (N, value)), ("a", "spread", "x", 0, value)):
                self.check(InvalidLine, {"position": 0}, INPUTS, [line])

    def test_a_name_is_taken_by_earlier_arrays_alone(self):
        turn = ("a", "turn", "x", 0)
        self.check(InvalidLine, {"position": 1}, INPUTS, [turn, turn])
        self.check(InvalidLine, {"position": 0}, INPUTS, [("b", "turn", "a", 0), turn])
        self.assertEqual(len(Program(INPUTS, [turn, ("b", "cells", "a", ("a", "a"))])), 2)

    def test_not_a_list_of_at_most_24(self):
        lines = chain(24)
        self.assertEqual(len(Program(INPUTS, lines)), 24)
        for value in no_lists() + [lines + [("b", "turn", "x", 0)], [None] * 25]:
            self.check(InvalidLine, {"position": None}, INPUTS, value, None)
        with self.assertRaises(InvalidLine) as caught:
            Program(INPUTS, lines).extended(("b", "turn", "x", 0))
        self.check_error(caught.exception, {"position": None})


def chain(many):
    """Lines each of which turns an axis of the array before."""
    names = ["x"] + [f"t{letter}" for letter in "abcdefghijklmnopqrstuvwxyz"]
    return [(names[at + 1], "turn", names[at], 0) for at in range(many)]


class TestLimits(Checks):

    def test_axes(self):
        lines = [("a", "spread", "z", 0, N), ("b", "split", "a", 0, (N, Size(), Size(), Size()))]
        self.assertEqual(Program(INPUTS, lines).axis_count(), 8)
        for line in (("c", "spread", "b", 8, N), ("c", "split", "b", 0, (N, M)), ("c", "split", "z", 0, (N,) * 300)):
            self.check(TooMany, {"kind": "axes", "limit": 8}, INPUTS, lines + [line, None], None)
            with self.assertRaises(TooMany) as caught:
                Program(INPUTS, lines).extended(line)
            self.check_error(caught.exception, {"kind": "axes", "limit": 8})
        self.check(InvalidLine, {"position": 1}, INPUTS, [lines[0], None, ("c", "split", "z", 0, (N,) * 300)])
        self.assertEqual(Program(INPUTS, lines + [("c", "split", "b", 0, (M,)), ("d", "cells", "f", ("c", "x"))]).axis_count(), 8)

    def test_leaves(self):
        doubled = [(f"c{'abcdef'[at]}", "cells", "f", (f"c{'abcdef'[at - 1]}" if at else "x",) * 2) for at in range(6)]
        made = Program(INPUTS, doubled)
        self.assertEqual([made.leaf_count(name) for name in made.arrays()], [1, 1, 1, 2, 4, 8, 16, 32, 64])
        last = made.extended(("s", "sum", "cf", (0, 1)), ("t", "spread", "s", 0, N))
        self.assertEqual(last.leaf_count(), 64)
        for line in (("u", "cells", "f", ("cf", "x")), ("u", "cells", "f", ("x", "t")), ("u", "cells", "f", ("cf", "cf", "cf"))):
            self.check(TooMany, {"kind": "leaves", "limit": 64}, INPUTS, last.lines() + [line, None])
            with self.assertRaises(TooMany) as caught:
                last.extended(line)
            self.check_error(caught.exception, {"kind": "leaves", "limit": 64})
        self.assertEqual(last.extended(("u", "cells", "f", ("cf",)), ("v", "cells", "f", ("ce", "cd", "cd"))).leaf_count(), 64)

    def test_facts(self):
        for value in no_lists():
            self.check(InvalidFacts, {"position": None}, INPUTS, (), value)
        for value in no_lists() + [Both(), Both(fact("n | m"))]:
            self.check(InvalidFacts, {"position": 1}, INPUTS, [], [fact("a*b*c*d | e*f*g*h"), value, None])
            with self.assertRaises(InvalidFacts) as caught:
                Program(INPUTS, (), facts("n | m", "m | k")).knowing(fact("n | k"), value)
            self.check_error(caught.exception, {"position": 3})
        most = [fact("n | m")] * 12
        self.assertEqual(Program(INPUTS, (), tuple(most)).facts(), most)
        self.check(TooMany, {"kind": "facts", "limit": 12}, INPUTS, (), most + [fact("a*b*c*d | e*f*g*h")])
        self.check(InvalidFacts, {"position": 12}, INPUTS, (), most + [None])
        with self.assertRaises(TooMany) as caught:
            Program(INPUTS, (), most).knowing(most[0])
        self.check_error(caught.exception, {"kind": "facts", "limit": 12})

    def test_names(self):
        made = Program(INPUTS, [("a", "spread", "x", 0, size("a*b")), ("b", "split", "a", 0, (size("c"), size("d")))], facts("e | e"))
        self.assertEqual(made.names(), ["a", "b", "c", "d", "e", "k", "m", "n"])
        self.assertEqual(made.knowing(fact("a | n")).extended(("s", "spread", "x", 0, size("a*e"))).names(), made.names())
        for further in (lambda: made.knowing(fact("o | 1")), lambda: made.extended(("s", "spread", "x", 0, size("o"))),
                        lambda: made.extended(("s", "split", "x", 0, (N, size("o*p")))),
                        lambda: Program([("x", (size("a*b*c*d*e*f*g*h*i"),))])):
            with self.assertRaises(TooMany) as caught:
                further()
            self.check_error(caught.exception, {"kind": "names", "limit": 8})

    def test_which_error_comes_first(self):
        nine = size("a*b*c*d*e*f*g*h*i")
        self.check(InvalidInputs, {"position": 0}, [None], None, None)
        self.check(InvalidLine, {"position": None}, [("x", (nine,))], None, None)
        self.check(InvalidLine, {"position": 0}, [("x", (nine,))], [None], None)
        self.check(InvalidFacts, {"position": None}, [("x", (nine,))], [("a", "turn", "x", 0)], None)
        self.check(TooMany, {"kind": "facts", "limit": 12}, [("x", (nine,))], (), [fact("n | m")] * 13)
        self.check(TooMany, {"kind": "names", "limit": 8}, [("x", (nine,))], (), [fact("n | m")] * 12)


class TestTold(Checks):

    LINES = [("a", "permute", "x", (1, 0)), ("b", "turn", "z", 0), ("c", "cells", "f", ("a", "y")), ("d", "sum", "c", (0,)),
             ("e", "cells", "g", ("b", "y", "b")), ("f", "merge", "a", 0, 2)]

    def setUp(self):
        self.made = Program(INPUTS, self.LINES, facts("n | q"))

    def test_lists(self):
        made = self.made
        self.assertEqual((made.inputs(), made.lines(), made.facts()), (INPUTS, self.LINES, facts("n | q")))
        self.assertEqual(made.arrays(), list("xyzabcdef"))
        self.assertEqual(made.names(), ["k", "m", "n", "q"])
        for told in (made.inputs, made.lines, made.facts, made.arrays, made.names):
            told().clear()
            self.assertNotEqual(told(), [])
        self.assertEqual((ROOT.lines(), ROOT.facts()), ([], []))

    def test_counts(self):
        self.assertEqual([self.made.axis_count(name) for name in self.made.arrays()], [2, 0, 4, 2, 4, 2, 1, 4, 1])
        self.assertEqual([self.made.leaf_count(name) for name in self.made.arrays()], [1, 1, 1, 1, 1, 2, 2, 3, 1])
        self.assertEqual([self.made.line_of(name) for name in self.made.arrays()], [None, None, None, 0, 1, 2, 3, 4, 5])
        self.assertEqual((self.made.axis_count(), self.made.leaf_count(None), self.made.line_of()), (1, 1, 5))
        self.assertEqual((ROOT.axis_count(), ROOT.leaf_count(), ROOT.line_of()), (4, 1, None))
        self.assertEqual((self.made.result, ROOT.result, len(self.made), len(ROOT)), ("f", "z", 6, 0))
        self.assertEqual((Program.MOST_LINES, Program.MOST_AXES, Program.MOST_LEAVES), (24, 8, 64))
        self.assertEqual((repr(self.made), repr(ROOT)), ("Program('f')", "Program('z')"))

    def test_only(self):
        for name, lines in (("a", [0]), ("b", [1]), ("c", [0, 2]), ("d", [0, 2, 3]), ("e", [1, 4]), ("f", [0, 5]), (None, [0, 5])):
            told = self.made.only(name)
            self.assertEqual(told, Program(INPUTS, [self.LINES[at] for at in lines], facts("n | q")))
            self.assertEqual(told.result, name or "f")
        self.assertEqual(self.made.only(name="d").only(), self.made.only("d"))

    def test_unknown_arrays(self):
        for value in odd_values() + [0, 1, "w", "xy", ["x"], ("x",), {"x": 1}]:
            for function in (self.made.axis_count, self.made.leaf_count, self.made.line_of, self.made.only):
                if value is not None:
                    with self.assertRaises(UnknownArray) as caught:
                        function(value)
                    self.assertIs(caught.exception.name, value)
            self.assertIs(value in self.made, False)
        for name in ("x", "y", "z"):
            with self.assertRaises(UnknownArray) as caught:
                self.made.only(name)
            self.check_error(caught.exception, {"name": name})
        with self.assertRaises(UnknownArray) as caught:
            ROOT.only()
        self.check_error(caught.exception, {"name": "z"})
        self.assertTrue(all(name in self.made for name in "xyzabcdef"))

    def test_longer_ones(self):
        self.assertEqual(ROOT.extended(), ROOT)
        self.assertEqual(ROOT.extended(*self.LINES[:2]).extended(*self.LINES[2:]).knowing(fact("n | q")), self.made)
        self.assertEqual(self.made.knowing(), self.made)
        self.assertEqual(self.made.knowing(fact("n | m"), fact("m | n")).facts(), facts("n | q", "n | m", "m | n"))
        self.assertEqual(len(self.made), 6)

    def test_equality(self):
        self.assertEqual(self.made, Program(tuple(INPUTS), tuple(self.LINES), tuple(facts("n | q"))))
        self.assertEqual(self.made, Program(inputs=INPUTS, lines=self.LINES, facts=facts("n | q")))
        for other in (ROOT, Program(INPUTS, self.LINES), Program(INPUTS[::-1], self.LINES, facts("n | q")), None, "Program('f')",
                      Program(INPUTS, self.LINES, facts("n = q")), Program(INPUTS, self.LINES[:5], facts("n | q")),
                      Program([*INPUTS[:2], ("z", (N, M * K, K, N))], self.LINES, facts("n | q"))):
            self.assertFalse(self.made == other)
            self.assertTrue(self.made != other)

    def test_what_was_passed_may_change(self):
        inputs, lines, given = list(INPUTS), list(self.LINES), facts("n | q")
        made = Program(inputs, lines, given)
        inputs.pop()
        lines.clear()
        given.append(fact("k | 1"))
        self.assertEqual(made, self.made)
        self.assertEqual(made.names(), ["k", "m", "n", "q"])


if __name__ == "__main__":
    unittest.main()
