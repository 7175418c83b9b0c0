"""Weakest cases of goals."""

import itertools
import unittest

from anyshape.errors import InvalidFacts, InvalidGoal
from anyshape.facts import Divides, Equals
from anyshape.failures import TooMany
from anyshape.follow import follows
from anyshape.goals import Both, Either
from anyshape.sizes import Size
from anyshape.weakest import is_weakest, weakest
from sums import Chance, fact, facts, holds, keeps, points_below, size
from values import no_lists, odd_values


def cases_in(goal):
    """The cases of a goal, as lists."""
    if isinstance(goal, Both):
        return [sum(chosen, []) for chosen in itertools.product(*map(cases_in, goal.goals()))]
    if isinstance(goal, Either):
        return [case for part in goal.goals() for case in cases_in(part)]
    return [[goal]]


def many_cases(count):
    """A goal with 81 cases, and as many more as are asked for."""
    single = ["a | b", "b | c", "c | d", "d | a", "a | d", "b | a", "c | b", "d | c", "a | c", "b | d", "c | a", "d | b"]
    parts = [Either(*facts(*single[at:at + 3])) for at in range(0, 12, 3)]
    return Either(Both(*parts), *[Both()] * (count - 81))


class TestWeakest(unittest.TestCase):

    def test_by_hand(self):
        for given, goal, told in (
                ((), Both(), [()]), ((), Either(), []), (("a | b",), fact("a | b"), [()]), (("a = b",), fact("b | a"), [()]),
                ((), fact("a | b"), [(fact("a | b"),)]), ((), Both(*facts("a | b", "a | b")), [(fact("a | b"),)]),
                ((), Either(*facts("a | b", "a = b")), [(fact("a | b"),)]),
                ((), Either(*facts("a = b", "a | b")), [(fact("a | b"),)]),
                (("a | b",), Both(*facts("a | b", "c | d")), [(fact("c | d"),)]),
                (("b | a",), Either(fact("a | b"), Both()), [()]),
                ((), Both(fact("a | b"), Either()), []), ((), Both(Either(), Either()), []), ((), Either(Either(), Both()), [()])):
            self.assertEqual(weakest(facts(*given), goal), told)
            self.assertIs(is_weakest(facts(*given), goal, told), True)
        found = weakest([], Either(*facts("a | b", "b | a")))
        self.assertEqual(sorted(map(repr, found)), sorted(map(repr, [(fact("a | b"),), (fact("b | a"),)])))

    def test_that_never_holds_is_seen_at_once(self):
        wide = Either(*[Both()] * 200)
        self.assertEqual(weakest([], Both(wide, wide, wide, Both(wide, wide), Either())), [])
        self.assertIs(is_weakest([], Both(wide, wide, wide, Either(), wide), []), True)

    def check_weakest(self, given, goal, told):
        points = [point for point in points_below("abc", 3) if all(keeps(point, one) for one in given)]
        for case in told:
            self.assertIsInstance(case, tuple)
            self.assertLessEqual(len(case), 24)
            for at in range(len(case)):
                self.assertFalse(follow(given + list(case[:at] + case[at + 1:]), case[at]))
        for one, other in itertools.permutations(told, 2):
            self.assertFalse(all(follow(given + list(one), part) for part in other))
        for pair in itertools.combinations(points, 2):
            cases = [all(keeps(point, part) for part in case for point in pair) for case in told]
            self.assertIs(any(cases), holds(goal, pair))

    def test_by_all_points(self):
        chance = Chance(191, "abc")
        for _ in range(60):
            given, goal = chance.facts(2), chance.goal(3)
            told = weakest(given, goal)
            self.assertIsInstance(told, list)
            self.check_weakest(given, goal, told)
            self.assertIs(is_weakest(given, goal, told), True)
            self.assertEqual(told == [], cases_in(goal) == [])
            self.assertEqual(told == [()], follows(given, goal))
            self.assertEqual(weakest(tuple(given), goal), told)

    def test_limits(self):
        self.assertEqual(len(cases_in(many_cases(81))), 81)
        self.assertIs(is_weakest([], many_cases(81), weakest([], many_cases(81))), True)
        for goal in (many_cases(82), Both(many_cases(81), Either(Both(), Both()))):
            for function, rest in ((weakest, ()), (is_weakest, ([],))):
                with self.assertRaises(TooMany) as caught:
                    function([], goal, *rest)
                self.assertEqual((caught.exception.kind, caught.exception.limit), ("cases", 81))


class TestIsWeakest(unittest.TestCase):

    GIVEN = facts("a | b")
    GOAL = Either(Both(*facts("b | c", "d = 1")), fact("c | a"))

    def setUp(self):
        self.right = [tuple(facts("b | c", "d = 1")), (fact("c | a"),)]
        self.assertIs(is_weakest(self.GIVEN, self.GOAL, self.right), True)

    def told(self, value):
        return is_weakest(self.GIVEN, self.GOAL, value)

    def test_other_right_lists(self):
        self.assertIs(self.told(self.right[::-1]), True)
        self.assertIs(self.told(tuple(self.right)), True)
        self.assertIs(self.told([tuple(facts("d | 1", "b^2 | c^2")), (fact("b*c | a*b"),)]), True)
        self.assertIs(is_weakest(facts=[], goal=fact("a = b"), value=[tuple(facts("a | b", "b | a"))]), True)

    def test_changed_lists(self):
        both, single = self.right
        for value in ([], [both], [single], [both, single, single], [both, both], [single, both, ()], [()],
                      [both, single + (fact("c | b"),)], [both + (fact("1 | b"),), single],
                      [both[:1], single], [both[1:], single], [both + both[:1], single], [single + single, both],
                      [both, tuple(facts("c | b"))], [both, single, tuple(facts("d = 1", "c = 1"))],
                      [both, (fact("c*e | a*e"),)], [both, single + (fact("e | e"),)], [list(both), single], [both, [single[0]]],
                      [both, single[0]], [both, (Both(single[0]),)], [both, (None,)], [both, None], [both, ("c | a",)]):
            self.assertIs(self.told(value), False, value)

    def test_values_of_other_kinds(self):
        for value in no_lists() + odd_values():
            self.assertIs(self.told(value), False)
            self.assertIs(self.told([value]), False)
            self.assertIs(self.told([self.right[0], (value,)]), False)

    def test_long_cases(self):
        parts = [Divides(Size({"a": count}), Size({"b": count})) for count in range(1, 27)]
        for count in (1, 2, 23, 24, 25, 26):
            self.assertIs(is_weakest([], parts[0], [tuple(parts[:count])]), count == 1)
            self.assertIs(is_weakest([], parts[0], [tuple(parts[:1] * count)]), count == 1)


class TestRefusals(unittest.TestCase):

    def check(self, kind, values, *arguments):
        for function, rest in ((weakest, ()), (is_weakest, (None,))):
            with self.assertRaises(kind) as caught:
                function(*arguments, *rest)
            self.assertEqual([getattr(caught.exception, name) for name in values], list(values.values()))

    def test_facts_then_goal_then_names_then_cases(self):
        wide, more = fact("a*b*c*d | e*f*g*h"), fact("i | 1")
        for value in no_lists():
            self.check(InvalidFacts, {"position": None}, value, value)
        self.check(InvalidFacts, {"position": 1}, [wide, None, 3], None)
        self.check(InvalidFacts, {"position": 13}, [wide] * 13 + [Both()], None)
        self.check(TooMany, {"kind": "facts", "limit": 12}, [wide] * 13, None)
        for value in no_lists() + [[wide]]:
            self.check(InvalidGoal, {"value": value}, [wide, more], value)
        self.check(TooMany, {"kind": "names", "limit": 8}, [wide, more], Either(many_cases(81), Both()))
        self.check(TooMany, {"kind": "names", "limit": 8}, [wide], more)
        self.check(TooMany, {"kind": "cases", "limit": 81}, [wide], many_cases(82))

    def test_nothing_is_shared(self):
        given, goal = facts("a | b"), Either(fact("b | c"))
        found = weakest(given, goal)
        found.clear()
        self.assertEqual(given, facts("a | b"))
        self.assertEqual(weakest(given, goal), [(fact("b | c"),)])


def follow(given, goal):
    """Whether a fact follows from any number of others."""
    points = points_below("abc", 5)
    return all(keeps(point, goal) for point in points if all(keeps(point, one) for one in given))


if __name__ == "__main__":
    unittest.main()
