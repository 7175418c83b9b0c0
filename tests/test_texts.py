"""Texts of programs, books, facts and goals, there and back."""

import unittest

from anyshape.book import Book
from anyshape.errors import InvalidText
from anyshape.facts import Divides, Equals
from anyshape.failures import NothingToUndo
from anyshape.goals import Both, Either
from anyshape.programs import Program
from anyshape.sizes import Size
from anyshape.texts import book_text, program_text, read_book, read_fact, read_goal, read_program
from makers import Maker
from sums import Chance, facts, size
from test_shapes import Box, program

N, M, K, ONE = size("n"), size("m"), size("k"), Size()
NO_STRINGS = [None, 0, 1, True, b"input x\n", b"", ["input x n\n"], ("input x",), {}, Box(), Program([("x", ())])]
ALL = """input x n m
input y
input z k^2*m n*q 1 q
fact n | m
fact 1 = k*m
a = merge x 0 2
b = split a 0 m n 1
c = permute z 3 0 2 1
d = turn c 0
e = pick d 3
f = spread y 0 k^2*n
g = drop b 2
h = cells f g
i = cells sum y y g
j = sum i 0 1
k = greatest h 0
l = least h 1
m = permute y
"""
BOOK = """fact n | m
fact m | 1
program input
input fact n
program = turn fact 0
input = turn program 0
program p
input x m n
program program
input input
"""


def line_told(read, text):
    """The line that is told of a text, None if it is read."""
    try:
        read(text)
    except InvalidText as error:
        return error.line
    return None


class TestPrograms(unittest.TestCase):

    def there_and_back(self, made, text):
        self.assertEqual(program_text(made), text)
        self.assertEqual(read_program(text), made)

    def test_the_example_of_the_document(self):
        made = Program([("x", (N, M))], [("y", "split", "x", 0, (M, N)), ("z", "cells", "f", ("x", "y")), ("s", "sum", "z", (0, 1))], [Divides(N, M)])
        self.there_and_back(made, "input x n m\nfact n | m\ny = split x 0 m n\nz = cells f x y\ns = sum z 0 1\n")

    def test_each_line(self):
        made = program({"x": "n m", "y": "", "z": "k^2*m n*q 1 q"}, ("a", "merge", "x", 0, 2), ("b", "split", "a", 0, (M, N, ONE)), ("c", "permute", "z", (3, 0, 2, 1)),
                       ("d", "turn", "c", 0), ("e", "pick", "d", 3), ("f", "spread", "y", 0, K * K * N), ("g", "drop", "b", 2), ("h", "cells", "f", ("g",)),
                       ("i", "cells", "sum", ("y", "y", "g")), ("j", "sum", "i", (0, 1)), ("k", "greatest", "h", (0,)), ("l", "least", "h", (1,)), ("m", "permute", "y", ()),
                       given=("n | m", "1 = k*m"))
        self.there_and_back(made, ALL)

    def test_names_that_are_words(self):
        made = Program([("input", (N,)), ("fact", ())], [("program", "turn", "input", 0), ("merge", "cells", "fact", ("program", "input")), ("a", "permute", "fact", ())])
        self.there_and_back(made, "input input n\ninput fact\nprogram = turn input 0\nmerge = cells fact program input\na = permute fact\n")
        made = Program([("x", (N,))], [("fact", "turn", "x", 0), ("input", "turn", "fact", 0), ("a", "turn", "input", 0)], facts("n | m"))
        self.there_and_back(made, "input x n\nfact n | m\nfact = turn x 0\ninput = turn fact 0\na = turn input 0\n")

    def test_great_numbers(self):
        far = 10 ** 5000 + 7
        text = f"input x n^1{'0' * 4999}7\n"
        made = Program([("x", (Size({"n": far}),))])
        self.assertEqual(program_text(made), text)
        self.assertEqual(read_program(text).inputs()[0][1][0].exponent("n") % 1000, 7)

    def test_random_ones(self):
        for seed in range(200):
            made = Maker(seed).program(8, facts=4, always=False)
            self.assertEqual(read_program(program_text(made)), made)

    def test_wrong_words(self):
        for text, line in (
                ("", 1), ("\n", 1), (" ", 1), ("input x n", 1), ("input x n\n\n", 2), ("input x n\ny = turn x 0", 2), ("input\n", 1), ("input \n", 1), ("input x \n", 1), ("input  x\n", 1),
                (" input x\n", 1), ("input x  n\n", 1), ("inputs x n\n", 1), ("Input x n\n", 1), ("input X\n", 1), ("input x1\n", 1), ("input abcdefghi\n", 1), ("input x 2\n", 1),
                ("input x n^1\n", 1), ("input x n^0\n", 1), ("input x n^-1\n", 1), ("input x m*k*n\n", 1), ("input x n*n\n", 1), ("input x k*m*n\n", None), ("input x 1*n\n", 1),
                ("input x n^02\n", 1), ("input x n\r\n", 1), ("input x n\ninput x m\n", 2), ("input x a b c d e\n", 1), ("input x\ninput y\ninput z\ninput w\n", 4),
                ("fact n | m\ninput x\n", 1), ("y = turn x 0\ninput x n\n", 1), ("input x n\ny = turn x 0\ninput z\n", 3), ("input x n\ny = turn x 0\nfact n | m\n", 3),
                ("input x n\nfact n | m\ninput z\n", 3), ("input x n\nfact n|m\n", 2), ("input x n\nfact n |m\n", 2), ("input x n\nfact n  | m\n", 2), ("input x n\nfact  n | m\n", 2),
                ("input x n\nfact n | m \n", 2), ("input x n\nfact n == m\n", 2), ("input x n\nfact n | m^-1\n", 2), ("input x n\nfact both(n | m)\n", 2), ("input x n\nfact\n", 2),
                ("input x n\nfact n m\n", 2), ("input x n\nfacts n | m\n", 2), ("input x n\nfact m | n | k\n", 2), ("program p\ninput x n\n", 1), ("input x n\nprogram p\n", 2)):
            self.assertEqual(line_told(read_program, text), line, repr(text))

    def test_wrong_lines(self):
        for line in ("y = turn x", "y = turn x 1", "y = turn x -1", "y = turn x 00", "y = turn x +0", "y = turn x 0 0", "y = turn x 0 ", "y = turn  x 0", "y =turn x 0", "y= turn x 0",
                     "y == turn x 0", "y : turn x 0", "y = turns x 0", "y = turn w 0", "y = turn y 0", "x = turn x 0", "y = turn x n", "y = turn x 0x0", "y = turn x 1e0", "y = turn x \u0660",
                     "Y = turn x 0", "abcdefghi = turn x 0", "= turn x 0", " = turn x 0", "y = ", "y =", "y = turn", "y = merge x 0", "y = merge x 0 0", "y = merge x 0 2", "y = merge x 0 1 1",
                     "y = merge x 0 01", "y = split x 0", "y = split x 0 n m^-1", "y = split x n", "y = split x 0 2", "y = split x 0 n,m", "y = permute x", "y = permute x 1", "y = permute x 0 0",
                     "y = permute x 0 1", "y = permute x (0)", "y = spread x 0", "y = spread x 2 n", "y = spread x 0 n m", "y = spread x n 0", "y = drop x 1", "y = cells f", "y = cells x",
                     "y = cells f w", "y = cells f x x x x", "y = cells F x", "y = cells 1 x", "y = cells f x ", "y = sum x", "y = sum x 1", "y = sum x 0 0", "y = total x 0", "y = sum x 0 1",
                     "turn y x 0", "y turn x 0", "y = turn x 0 # no", "y = greatest x", "y = least x n", "y = None x 0", "y = input x n", "# no", "end"):
            for text, told in ((f"input x n\n{line}\n", 2), (f"input x n\nfact n | m\nz = turn x 0\n{line}\ninput q n\n", 4)):
                self.assertEqual(line_told(read_program, text), told, line)
            self.assertEqual(line_told(read_program, f"input x n\n{line}"), 2)
        self.assertEqual(line_told(read_program, "input x n\ny = permute x 0\n"), None)

    def test_limits(self):
        names = "abcdefghijklmnopqrstuvwxyz"
        lines = ["input x n"] + [f"a{name} = turn x 0" for name in names]
        self.assertIsNone(line_told(read_program, "\n".join(lines[:25]) + "\n"))
        self.assertEqual(line_told(read_program, "\n".join(lines[:26]) + "\n"), 26)
        self.assertEqual(line_told(read_program, "\n".join(lines[:27]) + "\n"), 26)
        given = ["input x n"] + ["fact n | m"] * 13
        self.assertIsNone(line_told(read_program, "\n".join(given[:13]) + "\n"))
        self.assertEqual(line_told(read_program, "\n".join(given) + "\n"), 14)
        for text, line in (("input x a b c d\ninput y e f g h\nfact a | a*h\n", None), ("input x a b c d\ninput y e f g h\nfact a | i\n", 3), ("input x a b c d\ninput y e f g h\ninput z i\n", 3),
                           ("input x a b c d\nfact a | e*f*g*h\ny = spread x 0 h\n", None), ("input x a b c d\nfact a | e*f*g*h\ny = spread x 0 i\n", 3),
                           ("input x a b c d\nfact a | e*f*g*h\ny = split x 0 i a\n", 3)):
            self.assertEqual(line_told(read_program, text), line)
        wide = ["input x a b c d"] + [f"y{'abcdef'[at]} = spread {'x' if at == 0 else 'y' + 'abcdef'[at - 1]} 0 a" for at in range(5)]
        self.assertIsNone(line_told(read_program, "\n".join(wide[:5]) + "\n"))
        self.assertEqual(line_told(read_program, "\n".join(wide) + "\n"), 6)
        many = ["input x a"] + [f"y{'abcdefg'[at]} = cells f {' '.join(['x' if at == 0 else 'y' + 'abcdefg'[at - 1]] * 2)}" for at in range(7)]
        self.assertIsNone(line_told(read_program, "\n".join(many[:7]) + "\n"))
        self.assertEqual(line_told(read_program, "\n".join(many) + "\n"), 8)

    def test_each_change_of_a_text(self):
        """What is told of a changed text agrees with what is told of the lines up to the one that is told."""
        lines = ALL.split("\n")[:-1]
        for at in range(len(ALL)):
            for changed in (ALL[:at] + ALL[at + 1:], ALL[:at] + " " + ALL[at:], ALL[:at] + "0" + ALL[at + 1:], ALL[:at] + "\n" + ALL[at:], ALL[:at]):
                told = line_told(read_program, changed)
                if told is None:
                    self.assertEqual(program_text(read_program(changed)), changed)
                    continue
                pieces = changed.split("\n")
                before = "".join(line + "\n" for line in pieces[:told - 1])
                self.assertIn(line_told(read_program, before), (None, told))
                if told <= len(pieces) - 1:
                    self.assertEqual(line_told(read_program, before + pieces[told - 1] + "\n"), told)
                else:
                    self.assertTrue(pieces[-1] != "" or before in ("", changed))
        self.assertEqual(len(lines), 18)

    def test_no_strings(self):
        for read in (read_program, read_book, read_fact, read_goal):
            for value in NO_STRINGS:
                with self.assertRaises(InvalidText) as caught:
                    read(text=value)
                self.assertEqual(caught.exception.line, 0)


class TestFactsAndGoals(unittest.TestCase):

    def test_there_and_back(self):
        for goal, text in ((Divides(N, M * K), "n | k*m"), (Equals(ONE, N * N), "1 = n^2"), (Both(), "both()"), (Either(), "either()"),
                           (Both(Divides(N, M), Either(), Either(Equals(N, ONE), Both(Equals(M, ONE)))), "both(n | m, either(), either(n = 1, both(m = 1)))"),
                           (Both(*[Divides(N, M)] * 12), "both(" + ", ".join(["n | m"] * 12) + ")")):
            self.assertEqual(str(goal), text)
            self.assertEqual(read_goal(text), goal)
            self.assertEqual(read_goal(text=text), goal)
        for text in ("n | m", "1 = 1", "a^2*b | c^10", "both | either", "both = fact"):
            self.assertEqual(str(read_fact(text)), text)
            self.assertEqual(read_fact(text=text), read_goal(text))
        for seed in range(300):
            chance = Chance(seed, "nmk")
            goal = chance.goal(3, 2)
            self.assertEqual(read_goal(str(goal)), goal)

    def test_deep_ones(self):
        text = "n | m"
        for depth in range(1, 7):
            text = f"either({text})"
            self.assertEqual(read_goal(text).depth, depth)
        for word in ("either", "both"):
            self.assertEqual(line_told(read_goal, f"{word}({text})"), 1)
            self.assertEqual(line_told(read_goal, f"{word}(" * 3000 + ")" * 3000), 1)
            self.assertEqual(line_told(read_goal, f"{word}(" * 6 + ")" * 6), None)
            self.assertEqual(line_told(read_goal, f"{word}(" * 7 + ")" * 7), 1)
        self.assertEqual(line_told(read_goal, "both(" + ", ".join(["n | m"] * 13) + ")"), 1)
        self.assertEqual(line_told(read_goal, "both(" + ", ".join(["both(n | m, m | n)"] * 6 + ["n = m"]) + ")"), 1)
        self.assertEqual(line_told(read_goal, "both(" + ", ".join(["both(n | m, m | n)"] * 6) + ")"), None)

    def test_wrong_ones(self):
        wrong = ["", " ", "\n", "n", "n |", "| n", "n | ", " n | m", "n | m ", "n |  m", "n  | m", "n|m", "n | m\n", "n == m", "n || m", "n / m", "N | m", "n | M", "n | m^-1", "n^-1 | m",
                 "n | m*k", "n | m^1", "n | 2", "0 | n", "n | m | k", "n = m = k", "(n | m)", "n | m,", "fact n | m", "n | m*m", "n | 1*m", "n\t| m", "n | None", "n | abcdefghi"]
        for text in wrong:
            for read in (read_fact, read_goal):
                self.assertEqual(line_told(read, text), 1, text)
        for text in ("both()", "either(n | m)", "both(n | m, m | n)"):
            self.assertEqual(line_told(read_fact, text), 1)
        for text in ("both", "both(", "both)", "both()()", "both() ", " both()", "both ()", "both( )", "Both()", "all()", "both(,)", "both(n | m,)", "both(n | m,m | n)", "both(n | m,  m | n)",
                     "both(n | m , m | n)", "both(n | m m | n)", "both(n | m, )", "both(, n | m)", "both(n | m))", "both((n | m))", "both(n | m), either()", "both(n | m), either(n | m)", "both(either()",
                     "both(either())) ", "either(both(), )", "both(n | m", "both[n | m]", "neither()", "bothbothb | m", "both(n | m)both()", "n | both()", "both(n | m, either(n | m)", "both()\n", "()"):
            self.assertEqual(line_told(read_goal, text), 1, text)

    def test_each_change_of_a_text(self):
        text = "both(n | m, either(), either(n = 1, both(k^2 = m)))"
        for at in range(len(text)):
            for changed in (text[:at] + text[at + 1:], text[:at] + " " + text[at:], text[:at] + "(" + text[at:], text[:at] + ")" + text[at + 1:], text[:at] + "1" + text[at + 1:]):
                if line_told(read_goal, changed) is None:
                    self.assertEqual(str(read_goal(changed)), changed)


class TestBooks(unittest.TestCase):

    def test_there_and_back(self):
        book = read_book(BOOK)
        self.assertEqual(book_text(book), BOOK)
        self.assertEqual((book.facts(), book.names(), book.deeds), (facts("n | m", "m | 1"), ["input", "p", "program"], 0))
        with self.assertRaises(NothingToUndo):
            book.undo()
        self.assertEqual(book.program_named("input").lines(), [("program", "turn", "fact", 0), ("input", "turn", "program", 0)])
        self.assertEqual(book.standing("p"), ("alike", "p"))
        self.assertEqual(book_text(Book()), "")
        self.assertEqual(read_book(""), Book())
        self.assertEqual(read_book(text="fact n = m\n"), Book(facts("n = m")))
        self.assertEqual(book_text(book=Book(facts("n = m", "n = m"))), "fact n = m\nfact n = m\n")

    def test_made_ones(self):
        for seed in range(40):
            maker = Maker(seed)
            book = Book(maker.facts(3))
            for name in ("q", "a", "bb", "b"):
                made = maker.program(4, facts=0, always=False)
                book.put(name, made)
            told = read_book(book_text(book))
            self.assertEqual(told, book)
            self.assertEqual([told.standing(name) for name in told.names()], [book.standing(name) for name in book.names()])
            self.assertEqual(told.deeds, 0)

    def test_wrong_ones(self):
        for text, line in (
                ("\n", 1), ("fact n | m", 1), ("fact n | m\n\n", 2), ("fact\n", 1), ("facts n | m\n", 1), ("fact n|m\n", 1), ("input x\n", 1), ("program\n", 1), ("program \n", 1),
                ("program P\n", 1), ("program p", 1), ("program p\n", 2), ("program p \n", 1), ("program  p\n", 1), (" program p\n", 1), ("program p q\n", 1), ("program p\n\n", 2), ("program p\ninput x", 2),
                ("program p\nprogram q\n", 2), ("program p\nfact n | m\n", 2), ("program p\ninput x\nfact n | m\n", 3), ("program p\ninput x\nprogram p\n", 3), ("program q\ninput x\nprogram p\n", 3),
                ("program q\ninput x\nprogram pz\ninput x\n", 3), ("program p\ninput x\nprogram pa\ninput x\nprogram q\n", 6), ("program p\ny = turn x 0\n", 2), ("program p\ninput x n\ny = turn x 1\n", 3),
                ("fact n | m\nprogram p\ninput x n\nfact = turn x 0\nfact n | m\n", 5), ("program = turn x 0\n", 1), ("program =\n", 1), ("program p\nprogram = turn x 0\n", 2), ("fact = turn x 0\n", 1),
                ("program p\ninput x n\nprogram = turn x 0\nprogram =\n", 4), ("program p\ninput x\ny = permute x\nprogram q\ninput x n\ny = permute x\n", 6)):
            self.assertEqual(line_told(read_book, text), line, repr(text))

    def test_limits(self):
        given = "fact n | m\n" * 12
        self.assertIsNone(line_told(read_book, given))
        self.assertEqual(line_told(read_book, given + "fact n | m\n"), 13)
        programs = "".join(f"program {name}\ninput x n\n" for name in "abcdefghijkl")
        self.assertEqual(len(read_book(programs)), 12)
        self.assertEqual(line_told(read_book, programs + "program m\ninput x n\n"), 25)
        for text, line in (("fact a*b*c*d | e*f*g*h\nprogram p\ninput x a b c\n", None), ("fact a*b*c*d | e*f*g*h\nprogram p\ninput x a b i\n", 3), ("fact a*b*c*d | e*f*g*h\nfact a | i\n", 2),
                           ("fact a | b\nprogram p\ninput x c d e f\nprogram q\ninput x\ny = spread x 0 g*h\nz = spread y 0 i\n", 7),
                           ("fact a | b\nprogram p\ninput x c d e f\nprogram q\ninput x\ny = spread x 0 g*h\nprogram r\ninput x a i\n", 8)):
            self.assertEqual(line_told(read_book, text), line)

    def test_each_change_of_a_text(self):
        for at in range(len(BOOK)):
            for changed in (BOOK[:at] + BOOK[at + 1:], BOOK[:at] + " " + BOOK[at:], BOOK[:at] + "p" + BOOK[at + 1:], BOOK[:at] + "\n" + BOOK[at:], BOOK[:at]):
                told = line_told(read_book, changed)
                if told is None:
                    self.assertEqual(book_text(read_book(changed)), changed)
                    continue
                pieces = changed.split("\n")
                before = "".join(line + "\n" for line in pieces[:told - 1])
                self.assertIn(line_told(read_book, before), (None, told))
                if told <= len(pieces) - 1:
                    self.assertEqual(line_told(read_book, before + pieces[told - 1] + "\n"), told)
                else:
                    self.assertTrue(pieces[-1] != "" or before == changed)


if __name__ == "__main__":
    unittest.main()
