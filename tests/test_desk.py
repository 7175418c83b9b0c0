"""The desk and its commands."""

import unittest

from anyshape.book import Book
from anyshape.desk import Desk
from anyshape.errors import AnyshapeError, InvalidCommand, InvalidNumbers, InvalidText, OtherInputs
from anyshape.failures import BrokenFact, CommandFailed, DoesNotRun, NothingToUndo, TooMany, UnknownFact, UnknownName
from anyshape.texts import program_text
from sums import facts
from test_book import CROSSED, DROPPED, FLAT, PLAIN, SPLIT, TURNED
from test_shapes import Box, program
from values import no_lists, odd_values


def put(name, made):
    """The command that puts a program."""
    return f"put {name}\n{program_text(made)}"


class TestCommands(unittest.TestCase):

    def setUp(self):
        self.desk = Desk()

    def check(self, command, answer):
        before = self.desk.log()
        self.assertEqual(self.desk.do(command), answer)
        self.assertEqual(self.desk.log(), before + [command])

    def refused(self, kind, command):
        """The error, behind which all is as before."""
        log, book = self.desk.log(), self.desk.book()
        with self.assertRaises(kind) as caught:
            self.desk.do(command)
        self.assertEqual((self.desk.log(), self.desk.book()), (log, book))
        return caught.exception

    def test_programs_and_facts(self):
        self.check("classes", "-")
        self.check(put("p", PLAIN), "p")
        self.check(put("p", PLAIN), "-")
        self.check(put("b", SPLIT), "b")
        self.check(put("c", FLAT), "c")
        self.check("classes", "b | c | p")
        self.check("learn n = m", "p")
        self.check("classes", "b p | c")
        self.check("learn m | 1", "c")
        self.check("classes", "b c p")
        self.check("forget n = m", "p")
        self.check("undo", "done")
        self.check("drop b", "b c p")
        self.check("classes", "c p")
        self.check("drop c", "c p")
        self.check("drop p", "p")
        self.check("classes", "-")
        self.assertEqual(self.desk.book(), Book(facts("n = m", "m | 1")))

    def test_runs(self):
        self.desk.do_all([put("p", PLAIN), put("d", DROPPED)])
        self.check("runs p", "yes")
        self.check("runs d", "no 1")
        self.check("learn m = 1", "d")
        self.check("runs d", "yes")

    def test_shape(self):
        wide = program({"x": "n m*k^2"}, ("y", "merge", "x", 0, 2), ("z", "spread", "y", 0, PLAIN.inputs()[0][1][0]))
        self.desk.do_all([put("p", wide), put("q", program({"x": "n"}, ("y", "pick", "x", 0))), put("d", DROPPED)])
        self.check("shape p", "n k^2*m*n")
        self.check("shape p n=3 m=4 k=2", "3 48")
        self.check("shape p zz=9 k=10 n=1 m=12345678901234567890123456789", "1 1234567890123456789012345678900")
        self.check("shape q", "-")
        self.check("shape q n=2", "-")
        self.check("shape d n=3 m=1", "3")
        for command, kind, parts in (("shape d", DoesNotRun, {"line": 1}), ("shape d n=3 m=2", DoesNotRun, {"line": 1}), ("shape p n=3", InvalidNumbers, {"value": {"n": 3}}),
                                     ("shape r", UnknownName, {"name": "r"}), ("shape r n=3", UnknownName, {"name": "r"})):
            self.assertEqual(vars(self.refused(kind, command)), parts)
        self.check("learn n | m", "-")
        self.assertEqual(vars(self.refused(BrokenFact, "shape p n=3 m=4 k=2")), {"position": 0})
        self.check("shape p n=2 m=4 k=1", "2 8")

    def test_alike(self):
        self.desk.do_all([put("p", PLAIN), put("t", TURNED), put("d", DROPPED), put("w", CROSSED), put("f", FLAT), put("o", program({"y": "n"}))])
        self.check("alike p p", "yes")
        self.check("alike p t", "no")
        self.check("alike d p", "stopped")
        self.check("alike p d", "stopped")
        self.check("alike w f", "stopped")
        self.check("alike w w", "stopped")
        self.check("alike w p", "no")
        self.check("learn n = m", "w")
        self.check("alike w w", "yes")
        self.assertEqual(vars(self.refused(OtherInputs, "alike p o")), {"position": 0})
        self.assertEqual(self.refused(UnknownName, "alike q r").name, "q")
        self.assertEqual(self.refused(UnknownName, "alike p r").name, "r")
        self.assertEqual(self.refused(UnknownName, "alike r p").name, "r")

    def test_follows(self):
        self.desk.do("learn n | m")
        for goal, answer in (("n | m", "yes"), ("m | n", "no"), ("n | m^2", "yes"), ("both()", "yes"), ("either()", "no"), ("either(m | n, both(n | m, 1 | n))", "yes"), ("n | k", "no")):
            self.check(f"follows {goal}", answer)
        self.assertEqual(self.refused(TooMany, "follows a*b*c*d | e*f*g").kind, "names")

    def test_text(self):
        for made in (PLAIN, SPLIT, CROSSED, program({"x": ""}), program({"fact": "n"}, ("input", "turn", "fact", 0))):
            self.desk.do(put("p", made))
            self.check("text p", program_text(made)[:-1])
        self.desk.do("learn n | m")
        self.check("text p", "input fact n\ninput = turn fact 0")
        self.assertEqual(self.refused(UnknownName, "text q").name, "q")

    def test_undo(self):
        self.refused(NothingToUndo, "undo")
        self.desk.do_all([put("p", PLAIN), put("q", PLAIN), "learn n | m", "drop p", "forget n | m"])
        for names, given in ((["q"], ["n | m"]), (["p", "q"], ["n | m"]), (["p", "q"], []), (["p"], []), ([], [])):
            self.check("undo", "done")
            self.assertEqual((self.desk.book().names(), self.desk.book().facts()), (names, facts(*given)))
        self.refused(NothingToUndo, "undo")

    def test_errors_of_the_book(self):
        self.desk.do_all([put("p", PLAIN), "learn n | m"])
        self.assertEqual(str(self.refused(UnknownFact, "forget m | n").value), "m | n")
        self.assertEqual(self.refused(UnknownName, "drop q").name, "q")
        self.assertEqual(self.refused(UnknownName, "runs q").name, "q")
        self.assertEqual(self.refused(TooMany, "learn a*b*c*d | e*f*g").kind, "names")
        self.assertEqual(self.refused(TooMany, put("q", program({"x": "a b c d"}, ("y", "spread", "x", 0, program({"x": "e*f*g"}).inputs()[0][1][0])))).kind, "names")
        self.desk.do_all(["learn n | m"] * 11)
        self.assertEqual(self.refused(TooMany, "learn n | m").kind, "facts")
        for name in "abcdefghijk":
            self.desk.do(f"put {name}\ninput x\n")
        self.assertEqual(self.refused(TooMany, "put z\ninput x\n").kind, "programs")
        self.check("put k\ninput y\n", "k")

    def test_no_commands(self):
        self.desk.do(put("p", PLAIN))
        words = ["", " ", "\n", "put", "put ", "put p", "put p ", "put P\ninput x\n", "put  p\ninput x\n", "put p \ninput x\n", " put p\ninput x\n", "put\ninput x\n", "put \ninput x\n",
                 "put p q\ninput x\n", "putp\ninput x\n", "Put p\ninput x\n", "put abcdefghi\ninput x\n", "drop", "drop ", "drop P", "drop p q", "drop p ", "drop  p", "drop p\n", "dropp",
                 "learn", "learn ", "learn n", "learn n|m", "learn n | m ", "learn n | m\n", "learn both(n | m)", "learn n | m*m", "learn n | m^-1", "learn  n | m", "learn n | m, m | n",
                 "forget", "forget n", "forget both()", "forget  n | m", "forget n | m*k", "undo ", "undo p", "undo\n", " undo", "Undo", "undo 1", "runs", "runs P", "runs p p", "runs  p", "runs p\n",
                 "shape", "shape ", "shape P", "shape p ", "shape p n", "shape p n=", "shape p n=0", "shape p n=-1", "shape p n=03", "shape p n=+3", "shape p n=3 n=3", "shape p n=3 m=4 n=5",
                 "shape p N=3", "shape p =3", "shape p n=3  m=4", "shape p n=3 ", "shape p n = 3", "shape p n=3,m=4", "shape p n=m", "shape p n=3=3", "shape p n==3", "shape p n=3.0", "shape p n=1e3",
                 "shape p 3", "shape P n=3", "shape abcdefghi n=3", "shape p q", "shape n=3 p", "shape p n=3 m", "alike", "alike p", "alike p ", "alike p q r", "alike p  q", "alike P q", "alike p q ", "alike p q\n", "follows", "follows ", "follows n",
                 "follows n | m,", "follows both", "follows both(n | m", "follows  both()", "follows both() ", "follows " + "both(" * 7 + ")" * 7, "classes ", "classes p", " classes", "class", "text", "text P",
                 "text p ", "text p p", "texts p", "log", "book", "help", "quit", "do", "tried", "standing p", "names", "facts", "program p", "undo;", "undo undo", "p", "shape p n=\u0663"]
        for command in words + odd_values() + [0, 1, ["undo"], {"undo": 1}, ("undo",), b"undo", Box()]:
            if command == "":
                continue
            error = self.refused(InvalidCommand, command)
            self.assertIs(error.value, command)
        self.assertEqual(self.refused(InvalidCommand, "").value, "")

    def test_texts_that_are_wrong(self):
        for text, line in (("", 2), ("\n", 2), ("input x n", 2), ("input x n\n\n", 3), ("input x N\n", 2), ("input x n\ny = turn x 1\n", 3), ("input x n\nfact n | m\n", 3),
                           ("input x n\nfact n | m\ny = turn x 1\n", 3), ("fact n | m\ninput x\n", 2), ("input x n\ny = turn x 0\nz = turn x 0", 4), ("program p\ninput x\n", 2),
                           ("input x n\ny = turn x 0\ny = turn x 0\n", 4), ("input x a b c d\ninput y e f g h\ninput z i\n", 4)):
            self.assertEqual(self.refused(InvalidText, f"put p\n{text}").line, line, repr(text))
        self.assertEqual(self.refused(InvalidText, "put p\n").line, 2)
        self.check("put p\ninput x n\nfact = turn x 0\n", "p")

    def test_numbers_may_be_great(self):
        self.desk.do(put("p", PLAIN))
        self.check(f"shape p n=1{'0' * 4500} m=7", f"1{'0' * 4500} 7")


class TestDesks(unittest.TestCase):

    def test_do_all(self):
        desk = Desk()
        self.assertEqual(desk.do_all([]), [])
        self.assertEqual(desk.do_all(commands=(put("p", PLAIN), "runs p", "undo")), ["p", "yes", "done"])
        self.assertEqual(desk.log(), [put("p", PLAIN), "runs p", "undo"])
        for value in no_lists() + ["undo", {"undo": 1}, Box()]:
            for function in (desk.do_all, desk.tried):
                with self.assertRaises(InvalidCommand) as caught:
                    function(value)
                self.assertIs(caught.exception.value, value)

    def test_a_command_that_fails(self):
        for last, kind in (("drop q", UnknownName), ("nothing", InvalidCommand), (None, InvalidCommand), ("put p\ninput", InvalidText), ("forget n | m", UnknownFact), ("undo", NothingToUndo),
                           ("learn a*b*c*d | e*f*g*h*i", TooMany), ("shape p n=1", InvalidNumbers)):
            desk = Desk()
            commands = ["classes", put("p", PLAIN), "runs p", last, "drop p"]
            if last == "undo":
                commands[3:3] = ["undo"]
            for function, stays in ((desk.tried, False), (desk.do_all, True)):
                with self.assertRaises(CommandFailed) as caught:
                    function(commands)
                error = caught.exception
                self.assertEqual((error.position, error.results), (len(commands) - 2, ["-", "p", "yes", "done"][:len(commands) - 2]))
                self.assertIsInstance(error.__cause__, kind)
                self.assertEqual(desk.log(), commands[:-2] if stays else [])
                self.assertEqual(desk.book(), ({True: Book(), False: with_plain()}[last == "undo"]) if stays else Book())

    def test_tried(self):
        desk = Desk()
        desk.do_all([put("p", PLAIN), "learn n | m"])
        log, book = desk.log(), desk.book()
        self.assertEqual(desk.tried([put("q", FLAT), "classes", "drop p", "undo", "undo", "undo", "undo", "classes"]), ["q", "p | q", "p", "done", "done", "done", "done", "-"])
        self.assertEqual(desk.tried(commands=("runs p", "text p")), ["yes", "input x n m"])
        self.assertEqual((desk.log(), desk.book()), (log, book))
        self.assertEqual(desk.do_all(["undo", "undo"]), ["done", "done"])
        with self.assertRaises(NothingToUndo):
            desk.do("undo")
        self.assertEqual(desk.tried([put("p", PLAIN), "undo"]), ["p", "done"])
        with self.assertRaises(NothingToUndo):
            desk.do("undo")

    def test_book_and_log_are_copies(self):
        desk = Desk()
        desk.do_all([put("p", PLAIN), "learn n | m"])
        book = desk.book()
        self.assertEqual((book.names(), book.facts(), book.deeds), (["p"], facts("n | m"), 0))
        with self.assertRaises(NothingToUndo):
            book.undo()
        book.drop("p")
        book.learn(*facts("m | n"))
        desk.log().clear()
        self.assertEqual((desk.book().names(), desk.book().facts(), len(desk.log())), (["p"], facts("n | m"), 2))
        book = desk.book()
        desk.do("drop p")
        self.assertEqual(book.names(), ["p"])
        self.assertEqual(book.standing("p"), ("alike", "p"))

    def test_new_desks(self):
        one, other = Desk(), Desk()
        one.do(command=put("p", PLAIN))
        self.assertEqual((other.log(), other.book(), one.book() == other.book()), ([], Book(), False))
        self.assertTrue(issubclass(InvalidCommand, AnyshapeError))


def with_plain():
    """The book with the plain program."""
    book = Book()
    book.put("p", PLAIN)
    return book


if __name__ == "__main__":
    unittest.main()
