"""What follows from facts, whys and againsts."""

import unittest

from anyshape.cones import Cone
from anyshape.errors import InvalidFacts, InvalidGoal
from anyshape.facts import Divides, Equals
from anyshape.failures import TooMany
from anyshape.follow import against, follows, is_against, is_why, why
from anyshape.goals import Both, Either
from anyshape.sizes import Size
from sums import Chance, fact, facts, holds, is_right_against, is_right_why, keeps, points_below, size
from values import no_dicts, no_lists, odd_values

EIGHT = "a*b*c*d | e*f*g*h"
FACTS = facts("n | m", "m | n*r")


class TestAnswers(unittest.TestCase):

    def check(self, given, goal):
        """Just one of why and against is told, and what is told is right by the sums of the test."""
        yes, no, full = why(given, goal), against(given, goal), against(given, goal, full=True)
        self.assertIs(follows(given, goal), yes is not None)
        self.assertEqual(follows(given, goal), goal.holds_for(Cone(given, names=goal.names()).rays()))
        self.assertTrue((yes is None) != (no is None))
        self.assertIs(full is None, no is None)
        if no is None:
            self.assertTrue(is_right_why(given, goal, yes), (given, goal, yes))
            self.assertIs(is_why(given, goal, yes), True)
        else:
            self.check_against(given, goal, no, full)
        self.assertEqual((yes, no, full), (why(given, goal), against(given, goal), against(given, goal, full=True)))
        return yes is not None

    def check_against(self, given, goal, no, full):
        self.assertLessEqual(len(no), len(goal.facts()))
        self.assertLessEqual(len(full), len(goal.facts()) + 1)
        for points in (no, full):
            self.assertTrue(is_right_against(given, goal, points), (given, goal, points))
            self.assertIs(is_against(given, goal, points), True)
            for point in points:
                self.assertEqual((list(point), 0 in point.values()), (sorted(point), False))
        # A name that is not always 1 is in some ray, so it must be in some point of a full one.
        names = sorted({name for one in [*given, goal] for name in one.names()})
        free = {name for ray in Cone(given, names=goal.names()).rays() for name in ray}
        self.assertEqual(sorted({name for point in full for name in point} & set(names)), sorted(free))

    def test_by_hand(self):
        for texts, text, answer in (
                (("a | b", "b | c"), "a | c", True), (("a | b", "b | c"), "c | a", False),
                (("a*b = c", "b = d"), "a*d = c", True), (("a^2 | b^2",), "a | b", True), (("a^2 | b^3",), "a | b", False),
                (("a = b*c",), "b | a", True), (("a | b", "b | a"), "a = b", True), (("a | b",), "a = b", False),
                ((), "a | a*b", True), ((), "a | b", False), ((), "1 | a", True), ((), "a | 1", False),
                (("a^2 | a",), "a = 1", True), (("a*b = 1",), "b | 1", True), (("a | b",), "z | z", True),
                (("a^3 = b^2",), "a | b", True), (("a^3 = b^2",), "b | a", False), (("a*b | b",), "a*z = z", True)):
            self.assertIs(self.check(facts(*texts), fact(text)), answer, (texts, text))

    def test_both_and_either(self):
        yes, no, other = fact("n^2 | m^2"), fact("n | r"), fact("n = m")
        for goal, answer in ((Both(), True), (Either(), False), (Both(yes), True), (Both(yes, no), False),
                             (Either(no, yes), True), (Either(no, other), False), (Either(Both(), no), True),
                             (Both(Either(no, yes), yes), True), (Either(Both(no, yes), Both(yes, Either())), False)):
            self.assertIs(self.check(FACTS, goal), answer, goal)
        self.assertEqual(why(FACTS, Both()), ())
        self.assertEqual(why(FACTS, Either(no, Both())), (1, ()))
        self.assertEqual(against(FACTS, Either()), [])
        self.assertEqual(against([], Either(), full=True), [])
        self.assertEqual(against([], fact("a | b")), [{"a": 1}])

    def test_small_questions(self):
        chance = Chance(12, "abcd")
        answers = [self.check(chance.facts(5), chance.goal(0)) for _ in range(400)]
        self.assertGreater(min(answers.count(True), answers.count(False)), 40)

    def test_nested_goals(self):
        chance = Chance(13, "abc")
        answers = [self.check(chance.facts(5), chance.goal(3, 3)) for _ in range(300)]
        self.assertGreater(min(answers.count(True), answers.count(False)), 40)

    def test_large_questions(self):
        chance = Chance(14, "abcdefgh")
        for _ in range(60):
            self.check([chance.fact(5, 4) for _ in range(12)], chance.fact(4, 3))

    def test_small_points_never_say_otherwise(self):
        chance = Chance(15, "abc")
        for _ in range(150):
            given, goal = chance.facts(4), chance.goal(0)
            found = [point for point in points_below("abc", 5) if all(keeps(point, one) for one in given)]
            self.assertIs(follows(given, goal), holds(goal, found), (given, goal))

    def test_one_choice(self):
        goal = Either(fact("a | b"), fact("b | a"))
        self.assertIs(follows([], goal), False)
        self.assertTrue(all(holds(goal, [point]) for point in points_below("ab", 5)))
        self.assertEqual(len(against([], goal)), 2)

    def test_facts_with_very_long_exponents(self):
        long = Size.of(a=1).power(10 ** 29 + 7)
        self.assertIs(self.check([Divides(long, long * size("b"))], Divides(Size(), size("b"))), True)
        self.assertIs(self.check([Equals(long, size("b"))], fact("a^9 | b")), True)
        self.assertIs(self.check([Equals(long, size("b"))], Divides(size("b"), long.over(size("a")))), False)

    def test_by_the_names_of_the_interface(self):
        self.assertIs(follows(facts=tuple(FACTS), goal=fact("n | m")), True)
        self.assertEqual(why(facts=tuple(FACTS), goal=fact("n | m")), why(FACTS, fact("n | m")))
        self.assertEqual(against(facts=FACTS, goal=fact("m | n"), full=False), against(FACTS, fact("m | n")))
        self.assertIs(is_why(facts=FACTS, goal=fact("n | m"), value=(1, (1, 0), {})), True)
        self.assertIs(is_against(facts=FACTS, goal=fact("m | n"), value=[{"m": 1, "r": 1}]), True)
        with self.assertRaises(TypeError):
            against(FACTS, fact("m | n"), True)

    def test_what_is_passed_or_returned_may_change_later(self):
        told = against(FACTS, fact("m | n"), full=True)
        told[0].clear()
        told.clear()
        self.assertNotEqual(against(FACTS, fact("m | n"), full=True), told)
        rest = why(FACTS, fact("n | m*r"))[2]
        rest.clear()
        self.assertEqual(why(FACTS, fact("n | m*r"))[2], {"r": 1})
        self.assertEqual(FACTS, facts("n | m", "m | n*r"))


class TestWhys(unittest.TestCase):

    def test_right_ones(self):
        for goal, value in ((fact("n^2 | m^2"), (1, (2, 0), {})), (fact("n^2 | m^2"), (2, (4, 0), {"z": 0, "n": 0})),
                            (fact("n | m*z"), (1, (1, 0), {"z": 1})), (fact("n | m"), (10 ** 50, (10 ** 50, 0), {})),
                            (fact("n | n"), (3, (0, 0), {})), (fact("n = n"), ((1, (0, 0), {}), (5, (0, 0), {}))),
                            (Both(), ()), (Both(fact("n | m")), ((1, (1, 0), {}),)),
                            (Either(fact("m | n"), fact("n | m")), (1, (1, (1, 0), {})))):
            self.assertIs(is_why(FACTS, goal, value), True, (goal, value))
        given = facts("a = b", "c | a")
        self.assertIs(is_why(given, fact("b | a"), (1, (-1, 0), {})), True)
        self.assertIs(is_why(given, fact("a = b"), ((1, (1, 0), {}), (1, (-1, 0), {}))), True)
        self.assertIs(is_why(given, fact("c | b"), (1, (1, 1), {})), True)

    def test_wrong_ones(self):
        good = (1, (1, 0), {"z": 1})
        bad = [(0, (1, 0), {"z": 1}), (2, (1, 0), {"z": 1}), (-1, (1, 0), {"z": 1}), (True, (1, 0), {"z": 1}),
               (1, (1,), {"z": 1}), (1, (1, 0, 0), {"z": 1}), (1, (0, 1), {"z": 1}), (1, (2, 0), {"z": 1}),
               (1, (True, 0), {"z": 1}), (1, (1, False), {"z": 1}), (1, [1, 0], {"z": 1}), [1, (1, 0), {"z": 1}],
               (1, (1, 0), {}), (1, (1, 0), {"z": 2}), (1, (1, 0), {"z": True}), (1, (1, 0), {"z": 1, "y": 1}),
               (1, (1, 0), {"z": 1, "n": False}), (1, (1, 0), {"z": 1, "N": 0}), (1, (1, 0), {"z": 1, 3: 0}),
               (1, (1, 0), [("z", 1)]), (1, (1, 0)), (1, (1, 0), {"z": 1}, 0), (good,), (0, good), None, (), (1, (1, 0), None),
               ("1", (1, 0), {"z": 1}), (1, ("1", 0), {"z": 1}), (1, None, {"z": 1}), ((1, 0), 1, {"z": 1})]
        goal = fact("n | m*z")
        self.assertIs(is_why(FACTS, goal, good), True)
        for value in bad + no_dicts() + no_lists():
            self.assertIs(is_why(FACTS, goal, value), False, value)
            self.assertIs(is_why(FACTS, Both(goal), (value,)), False, value)
            self.assertIs(is_why(FACTS, Either(goal), (0, value)), False, value)

    def test_a_scale_of_0_shows_nothing(self):
        for given, weights in (([], ()), (FACTS, (0, 0))):
            for goal in facts("n | m", "m | n", "n | n", "1 | 1"):
                self.assertIs(is_why(given, goal, (0, weights, {})), False)

    def test_weights_below_0_only_for_what_equals(self):
        given = facts("a | b", "a = b")
        self.assertIs(is_why(given, fact("b | a"), (1, (0, -1), {})), True)
        self.assertIs(is_why(given, fact("b | a"), (1, (-1, 0), {})), False)
        self.assertIs(is_why(given, fact("a | b"), (1, (-1, 2), {})), False)
        self.assertIs(is_why([], fact("a | b"), (1, (), {"b": 1, "a": -1})), False)

    def test_forms_of_both_either_and_equals(self):
        one, good = fact("n | m"), (1, (1, 0), {})
        for goal, bad in ((Both(one, one), [(good,), (good, good, good), [good, good], good, (), None, (good, None)]),
                          (Either(one, one), [(2, good), (-1, good), (True, good), (False, good), (0,), (0, good, 0),
                                              [0, good], good, (None, good), (0, None), ("0", good), ()]),
                          (Equals(size("n"), size("n")), [(1, (0, 0), {}), ((1, (0, 0), {}),), [(1, (0, 0), {})] * 2,
                                                          ((1, (0, 0), {}), None), ((1, (0, 0), {}),) * 3]),
                          (Both(), [None, [], (good,), {}, 0, False]), (Either(), [(0, good), (), None, (0, ())])):
            for value in bad:
                self.assertIs(is_why(FACTS, goal, value), False, (goal, value))

    def test_one_place_changed(self):
        chance = Chance(16, "abc")
        changed = 0
        for _ in range(300):
            given, goal = chance.facts(4), Divides(chance.size(), chance.size())
            told = why(given, goal)
            if told is not None:
                scale, weights, rest = told
                for name in "abcz":
                    value = (scale, weights, {**rest, name: rest.get(name, 0) + 1})
                    self.assertIs(is_why(given, goal, value), False)
                for at, weight in enumerate(weights):
                    value = (scale, (*weights[:at], weight + 1, *weights[at + 1:]), rest)
                    self.assertIs(is_why(given, goal, value), is_right_why(given, goal, value))
                    changed += not is_why(given, goal, value)
                value = (scale + 1, weights, rest)
                self.assertIs(is_why(given, goal, value), is_right_why(given, goal, value))
        self.assertGreater(changed, 50)


class TestAgainsts(unittest.TestCase):

    def test_right_ones(self):
        goal = Either(fact("n | r"), fact("n = m"))
        for value in ([{"n": 1, "m": 1}, {"m": 1, "r": 1}], ({"m": 1, "r": 1}, {"n": 1, "m": 1, "z": 4, "q": 0}, {}),
                      [{"n": 1, "m": 2, "r": 1}, {"n": 2, "m": 2, "r": 1}], [{"n": 10 ** 60, "m": 10 ** 60 + 1, "r": 1}]):
            self.assertIs(is_against(FACTS, goal, value), True, value)
            self.assertTrue(is_right_against(FACTS, goal, value))
        self.assertIs(is_against(FACTS, Either(), []), True)
        self.assertIs(is_against(FACTS, Either(), ()), True)

    def test_wrong_ones(self):
        goal = Either(fact("n | r"), fact("n = m"))
        for value in ([], [{}], [{"n": 1, "m": 1}], [{"m": 1, "r": 1}], [{"n": 1, "m": 1}, {"m": 1}],
                      [{"n": 1}, {"m": 1, "r": 1}], [{"n": 1, "m": 1}, {"m": 1, "r": True}], {"n": 1, "m": 2},
                      [{"n": 1, "m": 1}, {"m": 1, "r": 1}, None], [{"n": 1, "m": 1}, {"m": 1, "r": 1}, {"z": -1}],
                      [{"n": 1, "m": 1}, {"m": 1, "r": 1}, {3: 1}], [[("n", 1)]], [{"n": 1, "m": 1}, {"m": 1, "r": 1}, []]):
            self.assertIs(is_against(FACTS, goal, value), False, value)
        for value in no_lists():
            self.assertIs(is_against(FACTS, Either(), value), False, value)
        for value in no_dicts():
            self.assertIs(is_against(FACTS, Either(), [value]), False, value)

    def test_one_place_changed(self):
        chance = Chance(17, "abc")
        for _ in range(200):
            given, goal = chance.facts(4), chance.goal(2)
            told = against(given, goal)
            for at, point in enumerate(told or []):
                for name in "abc":
                    for count in (point.get(name, 0) + 1, 0):
                        value = [*told[:at], {**point, name: count}, *told[at + 1:]]
                        self.assertIs(is_against(given, goal, value), is_right_against(given, goal, value))
                self.assertIs(is_against(given, goal, told[:at] + told[at + 1:]),
                              is_right_against(given, goal, told[:at] + told[at + 1:]))


class TestRefusals(unittest.TestCase):

    def calls(self):
        return [follows, why, against, lambda facts, goal: against(facts, goal, full=True),
                lambda facts, goal: is_why(facts, goal, None), lambda facts, goal: is_against(facts, goal, None)]

    def test_facts(self):
        for call in self.calls():
            for value in no_lists():
                with self.assertRaises(InvalidFacts) as caught:
                    call(value, None)
                self.assertIsNone(caught.exception.position)
            for value in odd_values() + [0, "a | b", size("a"), Both(fact("a | b"))]:
                with self.assertRaises(InvalidFacts) as caught:
                    call([fact("a | b")] * 13 + [value, 5], None)
                self.assertEqual(caught.exception.position, 13)
            with self.assertRaises(TooMany) as caught:
                call([fact(EIGHT), fact("x | y")] + [fact("a | b")] * 11, None)
            self.assertEqual((caught.exception.kind, caught.exception.limit), ("facts", 12))
            call([fact("a | b")] * 12, fact("a | b"))

    def test_goals(self):
        for call in self.calls():
            for value in odd_values() + [0, "a | b", size("a"), [fact("a | b")]]:
                with self.assertRaises(InvalidGoal) as caught:
                    call([fact(EIGHT), fact("x | y")], value)
                self.assertIs(caught.exception.value, value)

    def test_names(self):
        for call in self.calls():
            for given, goal in (([fact(EIGHT)], fact("a | z")), ([fact(EIGHT), fact("i | i")], Both()),
                                ([], Both(fact(EIGHT), fact("z | z"))), ([fact("i | i")], fact(EIGHT))):
                with self.assertRaises(TooMany) as caught:
                    call(given, goal)
                self.assertEqual((caught.exception.kind, caught.exception.limit), ("names", 8))
            call([fact(EIGHT)], Either(fact("a | h"), fact(EIGHT)))

    def test_names_of_judged_values_do_not_count(self):
        point = {name: 2 for name in "abcdefghijklmnopq"}
        self.assertIs(is_against([fact(EIGHT)], fact("a | 1"), [point]), True)
        self.assertIs(is_why([fact(EIGHT)], fact("a | a"), (1, (0,), {name: 0 for name in point})), True)


if __name__ == "__main__":
    unittest.main()
