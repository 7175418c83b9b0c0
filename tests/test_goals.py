"""Goals: facts, both and either, and where they hold."""

import unittest

from anyshape.errors import InvalidGoal, InvalidName, InvalidNumbers, InvalidPoint, InvalidPoints, InvalidSize
from anyshape.facts import Divides, Equals, Fact
from anyshape.failures import TooMany
from anyshape.goals import Both, Either, Goal
from anyshape.numbers import numbers_of
from anyshape.sizes import Size
from sums import Chance, fact, facts, holds, holds_at, keeps, row, size
from values import no_dicts, no_lists, no_names, odd_values

A, B = size("a"), size("b*c")


class TestFacts(unittest.TestCase):

    def test_classes(self):
        self.assertEqual((Fact.__bases__, Divides.__bases__, Equals.__bases__), ((Goal,), (Fact,), (Fact,)))
        self.assertEqual((Both.__bases__, Either.__bases__), ((Goal,), (Goal,)))

    def test_parts_and_texts(self):
        for kind, sign, name in ((Divides, "|", "Divides"), (Equals, "=", "Equals")):
            made = kind(A, B)
            self.assertEqual((made.one, made.other), (A, B))
            self.assertEqual(made, kind(one=A, other=B))
            self.assertEqual(made, kind(other=B, one=A))
            self.assertEqual(str(made), f"a {sign} b*c")
            self.assertEqual(repr(made), f"{name}(Size('a'), Size('b*c'))")
            self.assertEqual((made.facts(), made.names(), made.depth), ([made], ["a", "b", "c"], 0))
        self.assertEqual(str(Divides(Size(), Size())), "1 | 1")

    def test_one_and_other_do_not_change(self):
        for kind in (Divides, Equals):
            made = kind(A, B)
            for value in (B, A, None):
                with self.assertRaises(AttributeError):
                    made.one = value
                with self.assertRaises(AttributeError):
                    made.other = value
                with self.assertRaises(AttributeError):
                    del made.other
            self.assertEqual((made.one, made.other, made), (A, B, kind(A, B)))

    def test_rows(self):
        made = fact("a^2*b | b*c^3")
        self.assertEqual([made.exponent(name) for name in ("a", "b", "c", "d")], [-2, 0, 3, 0])
        self.assertEqual(made.exponent(name="c"), 3)
        self.assertEqual(made.names(), ["a", "b", "c"])
        for value in no_names():
            with self.assertRaises(InvalidName) as caught:
                made.exponent(value)
            self.assertIs(caught.exception.value, value)

    def test_kept_by(self):
        for text, kept, broken in (("a | b*c", [{}, {"b": 1}, {"a": 3, "b": 1, "c": 2}, {"z": 9}], [{"a": 1}]),
                                   ("a = b*c", [{}, {"a": 3, "b": 1, "c": 2}, {"z": 9}], [{"a": 1}, {"b": 1}])):
            for point in kept:
                self.assertIs(fact(text).kept_by(point), True)
            for point in broken:
                self.assertIs(fact(text).kept_by(point=point), False)
        for value in no_dicts() + [{"a": -1}, {"a": True}, {"A": 1}]:
            with self.assertRaises(InvalidPoint) as caught:
                fact("a | b").kept_by(value)
            self.assertIs(caught.exception.value, value)

    def test_only_whole_sizes(self):
        wrong = odd_values() + [0, 1, "a", {"a": 1}, size("a^-1"), size("a*b^-2"), fact("a | b")]
        for kind in (Divides, Equals):
            for value in wrong:
                for pair in ((value, None), (A, value), (value, A)):
                    with self.assertRaises(InvalidSize) as caught:
                        kind(*pair)
                    self.assertIs(caught.exception.value, value)

    def test_equal(self):
        self.assertEqual(Divides(A, B), fact("a | b*c"))
        for other in (Equals(A, B), Divides(B, A), Divides(A, A), Divides(A * A, B * A), Both(Divides(A, B)), "a | b*c",
                      None, 1):
            self.assertFalse(Divides(A, B) == other)
            self.assertTrue(Divides(A, B) != other)
        self.assertFalse(Equals(A, B) == Divides(A, B))
        self.assertFalse(Equals(A, B) == Equals(B, A))


class TestBothAndEither(unittest.TestCase):

    def test_parts(self):
        one, other = facts("a | b", "c = a")
        for kind in (Both, Either):
            inner = kind(other, one)
            goal = kind(one, inner, one)
            self.assertEqual(goal.goals(), [one, inner, one])
            self.assertEqual(goal.facts(), [one, other, one, one])
            self.assertEqual((goal.names(), goal.depth, len(goal)), (["a", "b", "c"], 2, 3))
            self.assertEqual((inner.depth, kind().depth, kind(kind()).depth, kind(one, kind()).depth), (1, 1, 2, 2))
            self.assertEqual((kind().goals(), kind().facts(), kind().names(), len(kind())), ([], [], [], 0))

    def test_texts(self):
        goal = Both(fact("a | b"), fact("a = c"))
        self.assertEqual(str(goal), "both(a | b, a = c)")
        self.assertEqual(repr(goal), "Both(Divides(Size('a'), Size('b')), Equals(Size('a'), Size('c')))")
        self.assertEqual((str(Either()), repr(Either()), str(Both()), repr(Both())),
                         ("either()", "Either()", "both()", "Both()"))
        self.assertEqual(repr(Both(Divides(size("a"), size("b")))), "Both(Divides(Size('a'), Size('b')))")
        self.assertEqual(str(Either(goal, Either(fact("1 | a")))), "either(both(a | b, a = c), either(1 | a))")

    def test_equal(self):
        one, other = facts("a | b", "c = a")
        self.assertEqual(Both(one, Either(other)), Both(fact("a | b"), Either(fact("c = a"))))
        for goal in (Either(one, other), Both(other, one), Both(one), Both(one, other, other), one, None, [one, other]):
            self.assertFalse(Both(one, other) == goal)
            self.assertTrue(Both(one, other) != goal)
        self.assertFalse(Both() == Either())
        self.assertFalse(Either(one) == Both(one))
        self.assertFalse(Either(one) == one)

    def test_only_goals(self):
        one = fact("a | b")
        for kind in (Both, Either):
            for value in odd_values() + [0, "a | b", [one], A]:
                with self.assertRaises(InvalidGoal) as caught:
                    kind(one, value, 5)
                self.assertIs(caught.exception.value, value)

    def test_twelve_and_thirteen_facts(self):
        one = fact("a | b")
        for kind in (Both, Either):
            self.assertEqual(len(kind(*[one] * 12).facts()), 12)
            self.assertEqual(len(kind(kind(*[one] * 6), kind(*[one] * 6)).facts()), 12)
            for parts in ([one] * 13, [kind(*[one] * 6), kind(*[one] * 6), one]):
                with self.assertRaises(TooMany) as caught:
                    kind(*parts)
                self.assertEqual((caught.exception.kind, caught.exception.limit), ("goal", 12))
            with self.assertRaises(InvalidGoal):
                kind(*[one] * 13, 5)

    def test_six_and_seven_deep(self):
        for kind in (Both, Either):
            for goal in (kind(), kind(fact("a | b"))):
                for depth in range(1, 6):
                    self.assertEqual(goal.depth, depth)
                    goal = kind(goal)
                self.assertEqual(goal.depth, 6)
                with self.assertRaises(TooMany) as caught:
                    kind(fact("a | b"), goal)
                self.assertEqual((caught.exception.kind, caught.exception.limit), ("depth", 6))
                with self.assertRaises(TooMany) as caught:
                    kind(goal, *[fact("a | b")] * 13)
                self.assertEqual(caught.exception.kind, "goal")

    def test_what_is_returned_may_change_later(self):
        goal = Both(fact("a | b"))
        for found in (goal.goals(), goal.facts(), goal.names(), goal.facts()[0].facts(), goal.facts()[0].names()):
            found.clear()
        self.assertEqual(goal, Both(fact("a | b")))
        self.assertEqual(goal.facts()[0].facts(), goal.facts())


class TestHolding(unittest.TestCase):

    def test_empty_ones(self):
        self.assertEqual([Both().holds_at({}), Both().holds_for([]), Both().holds_for([{"a": 1}])], [True] * 3)
        self.assertEqual([Either().holds_at({}), Either().holds_for([]), Either().holds_for([{"a": 1}])], [False] * 3)
        self.assertIs(fact("a | 1").holds_for([]), True)

    def test_at_numbers(self):
        goal = Either(fact("a | b"), fact("a = b^2"))
        self.assertEqual([goal.holds_at({"a": a, "b": b}) for a, b in ((2, 6), (4, 2), (4, 6), (9, 3), (1, 1))],
                         [True, True, False, True, True])
        goal = Both(fact("a | b"), fact("a^2 = b"))
        self.assertEqual([goal.holds_at(numbers={"a": a, "b": b, "z": 5}) for a, b in ((2, 6), (4, 2), (2, 4), (1, 1))],
                         [False, False, True, True])
        long = 10 ** 20
        self.assertIs(Divides(A.power(long), size("b").power(long)).holds_at({"a": 2, "b": 6}), True)
        self.assertIs(Divides(A.power(long), size("b").power(long)).holds_at({"a": 4, "b": 6}), False)

    def test_the_values_decide(self):
        chance = Chance(21, "abc")
        for _ in range(300):
            goal = chance.goal(3)
            numbers = {name: chance.source.choice([1, 2, 3, 4, 6, 12]) for name in "abc"}
            self.assertIs(goal.holds_at(numbers), holds_at(goal, numbers))
            points = [{name: chance.source.randint(0, 2) for name in "abc"} for _ in range(chance.source.randint(0, 3))]
            self.assertIs(goal.holds_for(points=points), holds(goal, points))
            self.assertIs(goal.holds_for(tuple(points)), goal.holds_at(numbers_of(points, *"abc")))
            for one in goal.facts():
                self.assertEqual({name: one.exponent(name) for name in one.names()}, row(one))
                self.assertEqual([one.kept_by(point) for point in points], [keeps(point, one) for point in points])

    def test_wrong_numbers(self):
        for goal in (fact("a | b"), fact("a = b"), Both(fact("a | 1"), fact("b | 1")), Either(fact("b = 1"), fact("a | 1"))):
            for value in no_dicts() + [{}, {"a": 1}, {"b": 2}, {"a": 1, "b": 0}, {"a": True, "b": 1}, {"a": 1, "b": 1, 3: 1}]:
                with self.assertRaises(InvalidNumbers) as caught:
                    goal.holds_at(value)
                self.assertIs(caught.exception.value, value)
        for goal in (Both(), Either(), fact("1 | 1")):
            for value in no_dicts() + [{"a": 0}, {"a": True}, {"A": 1}]:
                with self.assertRaises(InvalidNumbers) as caught:
                    goal.holds_at(value)
                self.assertIs(caught.exception.value, value)
        with self.assertRaises(InvalidNumbers):
            fact("a*b | b*c").holds_at({"a": 1, "c": 1})

    def test_wrong_points(self):
        for goal in (fact("a | b"), fact("a = b"), Both(), Either(), Both(fact("a | 1")), Either(fact("b = 1"))):
            for value in no_lists():
                with self.assertRaises(InvalidPoints) as caught:
                    goal.holds_for(value)
                self.assertIsNone(caught.exception.position)
            for value in no_dicts() + [{"a": -1}, {"a": True}, {"A": 1}]:
                with self.assertRaises(InvalidPoints) as caught:
                    goal.holds_for([{"a": 5}, {}, value, None])
                self.assertEqual(caught.exception.position, 2)


if __name__ == "__main__":
    unittest.main()
