"""Books: programs by names, their standings and classes, deeds and news."""

import unittest

from anyshape.alike import Stopped, alike
from anyshape.book import Book
from anyshape.errors import InvalidFacts, InvalidName, InvalidProgram, OtherInputs
from anyshape.failures import NothingToUndo, TooMany, UnknownFact, UnknownName
from anyshape.goals import Both
from anyshape.programs import Program
from anyshape.shapes import Fails, runs
from sums import fact, facts, size
from test_alike import NO_PROGRAMS, SUMMED
from test_nodes import BOTH
from test_places import CROSSING
from test_shapes import Box, program
from values import no_lists, no_names, odd_values
from variants import Rewriter

N, M = size("n"), size("m")
X = {"x": "n m"}
PLAIN, TURNED = program(X), program(X, ("a", "turn", "x", 0))
FLAT, SPLIT = program(X, ("a", "permute", "x", (1, 0))), program(X, ("b", "merge", "x", 0, 2), ("c", "split", "b", 0, (M, N)))
DROPPED = program(X, ("a", "turn", "x", 0), ("b", "drop", "a", 1))
CROSSED = program(X, *CROSSING)
NO_FACTS = odd_values() + [0, "n | m", "n", [], (), {}, Both(), Box()]


def standings(book):
    return {name: book.standing(name) for name in book.names()}


def expected(book):
    """The standings of the programs of a book, as alike answers."""
    found = {}
    for name in book.names():
        made = book.program_named(name)
        answer = runs(made)
        if isinstance(answer, Fails):
            found[name] = ("fails", answer.line)
        elif isinstance(alike(made, made), Stopped):
            found[name] = ("crossed",)
        else:
            found[name] = ("alike", next(other for other in book.names() if is_alike(book.program_named(other), made)))
    return found


def is_alike(one, other):
    try:
        return alike(one, other).is_yes
    except OtherInputs:
        return False


class TestDeeds(unittest.TestCase):

    def test_put(self):
        book = Book()
        self.assertEqual(book.put("q", PLAIN), ("q",))
        self.assertEqual(book.put("p", TURNED), ("p",))
        self.assertEqual(standings(book), {"p": ("alike", "p"), "q": ("alike", "q")})
        self.assertEqual(book.put(name="b", program=PLAIN), ("b", "q"))
        self.assertEqual(standings(book), {"b": ("alike", "b"), "p": ("alike", "p"), "q": ("alike", "b")})
        self.assertEqual(book.put("r", program(X, ("a", "turn", "x", 0), ("b", "turn", "a", 0))), ("r",))
        self.assertEqual(book.put("b", TURNED), ("p", "q", "r"))
        self.assertEqual(standings(book), {"b": ("alike", "b"), "p": ("alike", "b"), "q": ("alike", "q"), "r": ("alike", "q")})
        self.assertEqual(book.put("b", TURNED), ())
        self.assertEqual(book.put("b", program(X, ("c", "turn", "x", 0))), ())
        self.assertEqual(book.put("b", DROPPED), ("b", "p"))
        self.assertEqual(book.standing("b"), ("fails", 1))
        self.assertEqual(book.put("b", program(X, ("c", "drop", "x", 1))), ("b",))
        self.assertEqual(book.standing("b"), ("fails", 0))
        self.assertEqual((len(book), book.deeds, book.names()), (4, 9, ["b", "p", "q", "r"]))

    def test_drop(self):
        book = Book()
        for name, made in (("a", PLAIN), ("b", PLAIN), ("c", PLAIN), ("d", TURNED)):
            book.put(name, made)
        self.assertEqual(book.drop("b"), ("b",))
        self.assertEqual(book.drop(name="a"), ("a", "c"))
        self.assertEqual(standings(book), {"c": ("alike", "c"), "d": ("alike", "d")})
        self.assertEqual(book.drop("d"), ("d",))
        self.assertEqual(book.drop("c"), ("c",))
        self.assertEqual((len(book), book.names(), book.classes(), book.deeds), (0, [], [], 8))

    def test_learn_and_forget(self):
        book = Book()
        for name, made in (("d", DROPPED), ("f", FLAT), ("s", SPLIT), ("w", CROSSED)):
            book.put(name, made)
        self.assertEqual(standings(book), {"d": ("fails", 1), "f": ("alike", "f"), "s": ("alike", "s"), "w": ("crossed",)})
        self.assertEqual(book.learn(*facts("m | n")), ("w",))
        self.assertEqual(book.standing("w"), ("alike", "w"))
        self.assertEqual(book.learn(fact("m | n")), ())
        self.assertEqual(book.learn(), ())
        self.assertEqual(book.learn(*facts("n = k", "k | 1")), ("d", "s", "w"))
        self.assertEqual(standings(book), {"d": ("alike", "d"), "f": ("alike", "f"), "s": ("alike", "f"), "w": ("alike", "f")})
        self.assertEqual(book.facts(), facts("m | n", "m | n", "n = k", "k | 1"))
        self.assertEqual(book.classes(), [["d"], ["f", "s", "w"]])
        self.assertEqual(book.forget(fact("m | n")), ())
        self.assertEqual(book.facts(), facts("m | n", "n = k", "k | 1"))
        self.assertEqual(book.forget(fact("m | n")), ("d",))
        self.assertEqual(book.forget(fact=fact("k | 1")), ("s", "w"))
        self.assertEqual(standings(book), {"d": ("fails", 1), "f": ("alike", "f"), "s": ("alike", "s"), "w": ("crossed",)})
        self.assertEqual(book.facts(), facts("n = k"))

    def test_the_first_equal_fact_is_forgotten(self):
        book = Book(facts("n | m", "m | k", "n | m", "m = k"))
        self.assertEqual(book.forget(fact("n | m")), ())
        self.assertEqual(book.facts(), facts("m | k", "n | m", "m = k"))
        book.forget(fact("m = k"))
        self.assertEqual(book.facts(), facts("m | k", "n | m"))
        with self.assertRaises(UnknownFact):
            book.forget(fact("m = k"))

    def test_programs_with_other_inputs(self):
        book = Book()
        for name, made in (("a", program({"x": "n"})), ("b", program({"y": "n"})), ("c", program({"x": "m"})), ("d", program({"x": "n", "y": "n"})), ("e", program({"x": "n 1"}))):
            book.put(name, made)
        self.assertEqual(book.classes(), [["a"], ["b"], ["c"], ["d"], ["e"]])
        self.assertEqual(book.learn(fact("n = m")), ("c",))
        self.assertEqual(book.classes(), [["a", "c"], ["b"], ["d"], ["e"]])

    def test_crossed_words(self):
        book = Book()
        book.put("s", program(BOTH, *SUMMED))
        self.assertEqual(book.standing("s"), ("crossed",))
        book.learn(fact("n | m"))
        self.assertEqual(book.standing(name="s"), ("alike", "s"))

    def test_undo(self):
        book, other = Book(facts("n | m")), Book(facts("n | m"))
        steps = [lambda one: one.put("b", PLAIN), lambda one: one.put("a", PLAIN), lambda one: one.learn(fact("m | n")), lambda one: one.put("c", CROSSED), lambda one: one.put("a", SPLIT),
                 lambda one: one.forget(fact("n | m")), lambda one: one.drop("a"), lambda one: one.learn(), lambda one: one.put("b", DROPPED), lambda one: one.learn(*facts("m = 1", "n | q"))]
        seen = []
        for at, step in enumerate(steps):
            seen.append((book.facts(), standings(book), [book.program_named(name) for name in book.names()], book.classes()))
            self.assertEqual(book.deeds, at)
            step(book)
        for at in range(len(steps) - 1, -1, -1):
            self.assertIsNone(book.undo())
            self.assertEqual((book.facts(), standings(book), [book.program_named(name) for name in book.names()], book.classes()), seen[at])
            self.assertEqual(book.deeds, at)
        with self.assertRaises(NothingToUndo):
            book.undo()
        self.assertEqual(book, other)
        for step in steps:
            step(book)
            book.undo()
            step(book)
        book.undo()
        self.assertEqual(book.deeds, len(steps) - 1)

    def test_news_are_what_has_changed(self):
        """Deeds by a random source: news, standings and classes against what alike answers."""
        told = ["n | m", "m | n", "n = k", "k | 1", "m | k"]
        for seed in range(12):
            maker = Rewriter(seed, "nmk")
            book = Book(facts(*told[:seed % 3]))
            one = maker.program(4, facts=0)
            makes = [one, maker.rewritten(one), maker.mutant(one), FLAT, SPLIT, CROSSED, DROPPED, TURNED]
            before = expected(book)
            for _ in range(14):
                choice = maker.source.random()
                if choice < 0.55:
                    news = book.put(maker.source.choice("abcd"), maker.source.choice(makes))
                elif choice < 0.65 and len(book):
                    news = book.drop(maker.source.choice(book.names()))
                elif choice < 0.85 or not book.facts():
                    news = book.learn(fact(maker.source.choice(told))) if len(book.facts()) < 12 else ()
                else:
                    news = book.forget(maker.source.choice(book.facts()))
                after = expected(book)
                self.assertEqual(standings(book), after)
                self.assertEqual(news, tuple(sorted(name for name in {**before, **after} if before.get(name) != after.get(name))))
                groups = {}
                for name, standing in after.items():
                    if standing[0] == "alike":
                        groups.setdefault(standing[1], []).append(name)
                self.assertEqual(book.classes(), sorted(groups.values()))
                before = after


class TestQueries(unittest.TestCase):

    def test_contents(self):
        book = Book(facts("n | m"))
        book.put("p", PLAIN)
        for value in odd_values() + ["q", "x", 0, ["p"], ("p",), {"p": 1}, Box()]:
            self.assertNotIn(value, book)
        self.assertIn("p", book)
        self.assertEqual(book.program_named("p"), Program(PLAIN.inputs(), (), facts("n | m")))
        self.assertEqual(book.program_named(name="p").facts(), facts("n | m"))
        self.assertEqual((Book.MOST, len(book), len(Book())), (12, 1, 0))
        with self.assertRaises(AttributeError):
            book.deeds = 3

    def test_equality(self):
        book, other = Book(facts("n | m", "m | k")), Book(tuple(facts("n | m")))
        self.assertNotEqual(book, other)
        other.learn(fact("m | k"))
        self.assertEqual(book, other)
        book.put("p", PLAIN)
        self.assertNotEqual(book, other)
        other.put("p", TURNED)
        self.assertNotEqual(book, other)
        other.put("q", PLAIN)
        other.put("p", PLAIN)
        book.put("q", PLAIN)
        self.assertEqual(book, other)
        self.assertNotEqual(Book(facts("m | k", "n | m")), Book(facts("n | m", "m | k")))
        for value in odd_values() + [0, [], {}]:
            self.assertFalse(Book() == value)

    def test_what_is_passed_and_returned_may_change(self):
        given = facts("n | m")
        book = Book(given)
        given.append(fact("m | n"))
        book.facts().clear()
        book.put("p", PLAIN)
        book.names().clear()
        book.classes()[0].clear()
        book.classes().clear()
        self.assertEqual((book.facts(), book.names(), book.classes()), (facts("n | m"), ["p"], [["p"]]))
        self.assertEqual([kind.__class__ for kind in (book.put("q", PLAIN), book.standing("q"))], [tuple, tuple])

    def test_queries_are_no_deeds(self):
        book = Book()
        book.put("p", PLAIN)
        for query in (book.facts, book.names, book.classes, lambda: book.standing("p"), lambda: book.program_named("p"), lambda: "p" in book, lambda: len(book)):
            self.assertEqual(query(), query())
        self.assertEqual(book.deeds, 1)


class TestErrors(unittest.TestCase):

    def setUp(self):
        self.book = Book(facts("n | m"))
        self.book.put("p", PLAIN)
        self.book.put("q", CROSSED)

    def refused(self, kind, function, *values, **parts):
        """The error, behind which all is as before."""
        before = (self.book.facts(), standings(self.book), [self.book.program_named(name) for name in self.book.names()], self.book.deeds)
        with self.assertRaises(kind) as caught:
            function(*values, **parts)
        self.assertEqual((self.book.facts(), standings(self.book), [self.book.program_named(name) for name in self.book.names()], self.book.deeds), before)
        return caught.exception

    def test_a_new_book(self):
        for value in no_lists() + [Box()]:
            self.assertIsNone(self.refused(InvalidFacts, Book, value).position)
        self.assertEqual(self.refused(InvalidFacts, Book, facts("n | m") * 13 + [Both()]).position, 13)
        error = self.refused(TooMany, Book, facts("n | m") * 12 + facts("abc | ab*c*d*e*f*g*h"))
        self.assertEqual((error.kind, error.limit), ("facts", 12))
        error = self.refused(TooMany, Book, facts("a*b*c*d | e*f*g*h*i"))
        self.assertEqual((error.kind, error.limit), ("names", 8))
        self.assertEqual(len(Book(facts=facts("n | m") * 12).facts()), 12)

    def test_put(self):
        for value in no_names():
            self.assertIs(self.refused(InvalidName, self.book.put, value, None).value, value)
        for value in NO_PROGRAMS + [PLAIN.knowing(fact("n | m"))]:
            self.assertIs(self.refused(InvalidProgram, self.book.put, "p", value).value, value)
        error = self.refused(TooMany, self.book.put, "r", program({"x": "a b c d"}, ("y", "spread", "x", 0, size("e*f*g"))))
        self.assertEqual((error.kind, error.limit), ("names", 8))
        self.assertEqual(self.book.put("r", program({"x": "a b c d"}, ("y", "spread", "x", 0, size("e*f")))), ("r",))
        self.assertEqual(self.refused(TooMany, self.book.put, "s", program({"x": "g"})).kind, "names")
        self.assertEqual(self.refused(TooMany, self.book.learn, fact("n | g")).kind, "names")
        self.assertEqual(self.book.put("r", program({"x": "g"})), ())

    def test_thirteen_programs(self):
        for name in "abcdefghij":
            self.book.put(name, program({"x": "n"}))
        self.assertEqual(len(self.book), 12)
        error = self.refused(TooMany, self.book.put, "k", program({"x": "a b c d"}, ("y", "spread", "x", 0, size("e*f*g"))))
        self.assertEqual((error.kind, error.limit), ("programs", 12))
        self.assertEqual(self.refused(TooMany, self.book.put, "j", program({"x": "a b c d"}, ("y", "spread", "x", 0, size("e*f*g")))).kind, "names")
        self.assertEqual(self.book.put("j", program({"x": "m"})), ("j",))
        self.book.drop("a")
        self.assertEqual(self.book.put("k", program({"x": "m"})), ("k",))
        self.refused(TooMany, self.book.put, "a", PLAIN)

    def test_unknown_names(self):
        for function in (self.book.drop, self.book.program_named, self.book.standing):
            for value in odd_values() + ["x", "r", 0, [], ["p"], ("p",), {}, {"p": 1}, Box()]:
                self.assertIs(self.refused(UnknownName, function, value).name, value)

    def test_learn(self):
        for values, position in (((None,), 0), ((fact("n | m"), "n | m"), 1), ((fact("n | m"),) * 13 + (3,), 13), ((facts("n | m"),), 0), ((Both(),), 0)):
            self.assertEqual(self.refused(InvalidFacts, self.book.learn, *values).position, position)
        error = self.refused(TooMany, self.book.learn, *facts("n | m") * 11, fact("a*b*c | d*e*f*g"))
        self.assertEqual((error.kind, error.limit), ("facts", 12))
        error = self.refused(TooMany, self.book.learn, fact("a*b*c | d*e*f*g"))
        self.assertEqual((error.kind, error.limit), ("names", 8))
        self.assertEqual(self.book.learn(*facts("n | m") * 11), ())
        self.refused(TooMany, self.book.learn, fact("n | m"))
        self.assertEqual(self.book.learn(), ())

    def test_forget(self):
        for value in NO_FACTS + facts("m | n", "n = m", "n | k"):
            self.assertIs(self.refused(UnknownFact, self.book.forget, value).value, value)
        self.assertEqual(self.book.forget(fact("n | m")), ("q",))
        self.refused(UnknownFact, self.book.forget, fact("n | m"))


if __name__ == "__main__":
    unittest.main()
