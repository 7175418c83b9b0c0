"""Terms and words that are put together."""

import itertools
import random
import unittest

from anyshape.errors import InvalidTerm, InvalidTerms, InvalidWord
from anyshape.terms import is_term, put_together, reads_of, term_text
from makers import word
from values import no_lists, no_names, odd_values



class Box:
    """An object that is equal to everything."""

    def __eq__(self, other):
        return True


X0, X1, Y0 = ("in", "x", 0), ("in", "x", 1), ("in", "y", 0)
F = ("let", "f", (X1, X0, X1))
SUM = ("sum", (X0, X0, X1))
LEAST = ("least", (X0, SUM))
RIGHT = [X0, ("in", "abcdefgh", 10 ** 29), F, ("let", "f", (X0,)), SUM, ("sum", (X0, X0)), LEAST, ("greatest", (X0, Y0)),
         ("let", "g", (F, SUM, LEAST)), ("sum", (X0, LEAST)), ("greatest", (X0, ("let", "f", (X1,)), SUM)), ("in", "sum", 0),
         ("let", "in", (X0,)), ("let", "sum", (SUM,))]
WRONG = [("in", "x"), ("in", "x", 0, 0), ("in", "x", -1), ("in", "x", True), ("in", "x", False), ("in", "x", "0"), ["in", "x", 0],
         ("in", "X", 0), ("in", ["x"], 0), ("in", "", 0), ("in", "abcdefghi", 0), ("out", "x", 0), ("IN", "x", 0), ((), (), ()),
         ("let", "f", ()), ("let", "f", (X0,) * 4), ("let", "f", [X0]), ("let", "F", (X0,)), ("let", "f", X0), ("let", (X0,)),
         ("let", "f", (X0,), ()), ("let", "f", (X0, None)), ("let", "f", (X0, ("in", "x", True))), ("let", "f", "x"),
         ("sum", (X0,)), ("sum", ()), ("sum", X0), ("sum", [X0, X1]), ("sum", (X1, X0)), ("sum", (X0, SUM)), ("sum",), (), ("sum", 2),
         ("least", (X0, X0)), ("greatest", (X0, X0)), ("least", (X0, ("least", (X0, X1)))), ("sum", "x", (X0, X1)), ("sums", (X0, X1)),
         ("least", (Y0, X0)), ("greatest", (SUM, X0)), ("let", "f", (("sum", (X1, X0)),)), ("greatest", (X0, ("in", "x", True))),
         (["sum"], (X0, X1)), ("in",), ("let",), ("let", "f"), (1, (X0, X1)), (None, (X0, X1)),
         ("let", "f", (X0,), (X0,)), (Box(), "x", 0), (Box(), (X0, X1)), (Box(), "f", (X0,))]


class TestIsTerm(unittest.TestCase):

    def test_right_and_wrong(self):
        for value in RIGHT:
            self.assertIs(is_term(value), True, value)
        for value in WRONG + no_lists() + odd_values() + no_names():
            self.assertIs(is_term(value=value), False, value)

    def test_words_are_terms(self):
        for name in ("sum", "greatest", "least"):
            for terms in itertools.product(RIGHT, repeat=2):
                self.assertIs(is_term(put_together(name, terms)), True)
                self.assertIs(is_term((name, terms)), put_together(name, terms) == (name, terms))


class TestPutTogether(unittest.TestCase):

    def test_by_hand(self):
        for name, terms, told in (("sum", [X1, X0, X1], ("sum", (X0, X1, X1))), ("sum", [X1], X1), ("least", (X1, X1), X1),
                                  ("sum", [SUM], SUM), ("sum", [SUM, X0], ("sum", (X0, X0, X0, X1))),
                                  ("sum", [SUM, SUM], ("sum", (X0, X0, X0, X0, X1, X1))),
                                  ("least", [LEAST, X1, X0], ("least", (X0, X1, SUM))), ("least", [LEAST, SUM], LEAST),
                                  ("greatest", [LEAST, SUM, LEAST], ("greatest", (LEAST, SUM))), ("greatest", [LEAST], LEAST),
                                  ("greatest", [F, Y0, X0, Y0], ("greatest", (X0, Y0, F)))):
            self.assertEqual(put_together(name, terms), told)
            self.assertEqual(put_together(word=name, terms=terms), told)

    def test_as_made_here(self):
        source = random.Random(32)
        pool = list(RIGHT)
        for _ in range(400):
            name, terms = source.choice(["sum", "greatest", "least"]), source.choices(pool, k=source.randint(1, 5))
            told = put_together(name, terms)
            self.assertEqual(told, word(name, terms))
            self.assertIs(is_term(told), True)
            if len(str(told)) < 500:
                pool.append(told)

    def test_refusals(self):
        for value in no_lists() + odd_values() + ["in", "let", "Sum", "sums", ("sum",), ["sum"], Box()]:
            with self.assertRaises(InvalidWord) as caught:
                put_together(value, None)
            self.assertIs(caught.exception.value, value)
        for value in no_lists() + [[], ()]:
            with self.assertRaises(InvalidTerms) as caught:
                put_together("sum", value)
            self.assertIsNone(caught.exception.position)
        for value in WRONG + odd_values():
            for terms, position in (([value], 0), ((X0, SUM, value, None), 2)):
                with self.assertRaises(InvalidTerms) as caught:
                    put_together("least", terms)
                self.assertEqual(caught.exception.position, position)

    def test_what_was_passed_stays(self):
        terms = [X1, SUM, X0]
        put_together("sum", terms)
        self.assertEqual(terms, [X1, SUM, X0])


class TestReadsAndTexts(unittest.TestCase):

    def test_reads(self):
        self.assertEqual(reads_of(X1), [("x", 1)])
        self.assertEqual(reads_of(term=("let", "g", (F, ("sum", (Y0, Y0)), ("in", "a", 9)))), [("a", 9), ("x", 0), ("x", 1), ("y", 0)])
        reads_of(F).clear()
        self.assertEqual(reads_of(F), [("x", 0), ("x", 1)])

    def test_texts(self):
        self.assertEqual(term_text(term=("let", "f", (("in", "x", 3), ("sum", (("in", "y", 0), ("in", "y", 1)))))),
                         "f(x[3], sum(y[0], y[1]))")
        self.assertEqual([term_text(term) for term in (X0, F, LEAST, ("let", "g", (SUM,)))],
                         ["x[0]", "f(x[1], x[0], x[1])", "least(x[0], sum(x[0], x[0], x[1]))", "g(sum(x[0], x[0], x[1]))"])
        self.assertEqual(len(term_text(("in", "x", 10 ** 9999))), 10003)

    def test_refusals(self):
        for value in WRONG + no_lists():
            for function in (reads_of, term_text):
                with self.assertRaises(InvalidTerm) as caught:
                    function(value)
                self.assertIs(caught.exception.value, value)


if __name__ == "__main__":
    unittest.main()
