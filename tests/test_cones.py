"""Cones: their rays, what is in them, and how they are compared and joined."""

import itertools
import math
import unittest

from anyshape.cones import Cone
from anyshape.errors import InvalidCone, InvalidFacts, InvalidNames
from anyshape.failures import TooMany
from anyshape.facts import Divides
from anyshape.goals import Both
from anyshape.sizes import Size
from sums import Chance, fact, facts, keeps, points_below, size
from values import no_dicts, no_lists, no_names, odd_values

EIGHT = "a*b*c*d | e*f*g*h"


def rays_by_the_words(given, names, bound, multiple):
    """The rays with counts below the bound: no multiple is a sum of points out of proportion."""
    found = []
    for point in points_below(names, bound):
        counts = tuple(point.values())
        if math.gcd(*counts) == 1 and all(keeps(point, one) for one in given):
            if not is_sum(given, names, [multiple * count for count in counts]):
                found.append(counts)
    return sorted(found)


def is_sum(given, names, counts):
    """Whether these counts are a sum of two points of the cone that are not in proportion to them."""
    for part in itertools.product(*[range(count + 1) for count in counts]):
        if is_skew(counts, part):
            rest = [whole - one for whole, one in zip(counts, part)]
            if all(keeps(dict(zip(names, one)), fact) for one in (part, rest) for fact in given):
                return True
    return False


def is_skew(counts, part):
    """Whether no multiples of the two lists of counts are equal."""
    pairs = itertools.combinations(range(len(counts)), 2)
    return any(counts[at] * part[to] != counts[to] * part[at] for at, to in pairs)


class TestRays(unittest.TestCase):

    def test_their_sequence_and_form(self):
        cone = Cone(facts("n | m", "m | n*r"))
        self.assertEqual(cone.rays(), [{"r": 1}, {"m": 1, "r": 1}, {"m": 1, "n": 1}])
        self.assertEqual([list(ray) for ray in cone.rays()], [["r"], ["m", "r"], ["m", "n"]])
        self.assertEqual((len(cone), cone.names(), cone.facts()), (3, ["m", "n", "r"], facts("n | m", "m | n*r")))
        self.assertEqual(Cone(facts("a^2 | b^3")).rays(), [{"b": 1}, {"a": 3, "b": 2}])
        self.assertEqual(Cone(facts("a^2 = b^3")).rays(), [{"a": 3, "b": 2}])
        self.assertEqual(Cone(facts("a*b = c*d")).rays(),
                         [{"b": 1, "d": 1}, {"b": 1, "c": 1}, {"a": 1, "d": 1}, {"a": 1, "c": 1}])

    def test_no_facts_and_further_names(self):
        self.assertEqual((Cone([]).rays(), Cone([]).names(), len(Cone([])), Cone([]).facts()), ([], [], 0, []))
        cone = Cone([], names=["c", "a", "b", "a"])
        self.assertEqual((cone.rays(), cone.names()), ([{"c": 1}, {"b": 1}, {"a": 1}], ["a", "b", "c"]))
        self.assertEqual(Cone(facts=facts("b | 1"), names=("c", "a")).rays(), [{"c": 1}, {"a": 1}])
        self.assertEqual(Cone(facts("a*b | b*c")).rays(), [{"c": 1}, {"b": 1}, {"a": 1, "c": 1}])

    def test_facts_that_say_the_same(self):
        for texts in (("a | b", "b | a"), ("a = b",), ("a = b", "a^2 = b^2", "b = a"), ("a | b", "b | a", "a | b")):
            self.assertEqual(Cone(facts(*texts)).rays(), [{"a": 1, "b": 1}])
        self.assertEqual(Cone(facts("a | b", "a^2 | b^2", "a | b^2")).rays(), [{"b": 1}, {"a": 1, "b": 1}])

    def test_names_that_must_be_1(self):
        self.assertEqual(Cone(facts("a | 1", "b | c")).rays(), [{"c": 1}, {"b": 1, "c": 1}])
        self.assertEqual(Cone(facts("a^2 | b", "b | a")).rays(), [])
        self.assertEqual(Cone(facts("a*b = 1")).rays(), [])
        self.assertEqual(Cone(facts("a*b = b", "c | a")).rays(), [{"b": 1}])

    def test_a_search_by_the_words_of_the_document(self):
        chance = Chance(4, "abc")
        compared = 0
        while compared < 30:
            given = chance.facts(4)
            cone = Cone(given, names="a b c".split())
            rays = [tuple(ray.get(name, 0) for name in "abc") for ray in cone.rays()]
            if max([0, *map(max, rays)]) < 3:
                compared += 1
                self.assertEqual(rays, rays_by_the_words(given, "abc", 3, 6), given)

    def test_points_are_sums_of_rays(self):
        # A point minus as much of a ray as fits keeps fewer facts with something to spare.
        chance = Chance(6, "abcd")
        for _ in range(80):
            given = chance.facts(6, 3, 3)
            cone = Cone(given, names=list("abcd"))
            for ray in cone.rays():
                self.assertTrue(all(keeps(ray, one) for one in given))
                self.assertEqual(math.gcd(*ray.values()), 1)
            for point in points_below("abcd", 3):
                if all(keeps(point, one) for one in given):
                    self.assertTrue(is_made_of(point, cone.rays(), given), (given, point))

    def test_many_rays_of_eight_names(self):
        cone = Cone(facts(EIGHT, "a | b*c", "b | c*d*e", "d^2 | a*b*f^3", "f | g*h", "g^2 | a*b*c*d", "h | a^2*e"))
        self.assertGreater(len(cone), 20)
        self.assertEqual(cone.rays(), Cone(list(reversed(cone.facts()))).rays())
        lists = [[ray.get(name, 0) for name in "abcdefgh"] for ray in cone.rays()]
        self.assertEqual(lists, sorted(lists))
        for ray in cone.rays():
            self.assertEqual([name for name in ray if ray[name] < 1], [])
            self.assertIn(ray, cone)


def is_made_of(point, rays, given):
    """Whether some multiple of the point is a sum of multiples of rays, by taking rays away."""
    rest = dict(point)
    while any(rest.values()):
        for ray in rays:
            if all(count <= 0 or rest[name] > 0 for name, count in ray.items()):
                scaled, left = taken(rest, ray, given)
                if left is not None:
                    rest = left
                    break
        else:
            return False
    return True


def taken(point, ray, given):
    """A multiple of the point less as much of the ray as leaves a point that keeps the facts."""
    limits = [(point[name], count) for name, count in ray.items()]
    for one in given:
        have, need = spare(point, one), spare(ray, one)
        if need > 0:
            limits.append((have, need))
    many, scale = min(limits, key=lambda limit: limit[0] / limit[1])
    if many == 0:
        return scale, None
    return scale, {name: scale * count - many * ray.get(name, 0) for name, count in point.items()}


def spare(point, of_fact):
    """The sum of the row of the fact at the point."""
    return sum(of_fact.exponent(name) * count for name, count in point.items())


class TestMembers(unittest.TestCase):

    def test_in(self):
        cone = Cone(facts("a | b"))
        for point in ({}, {"a": 1, "b": 1}, {"b": 0}, {"z": 5}, {"a": 10 ** 50, "b": 10 ** 50}):
            self.assertTrue(point in cone)
        for value in no_dicts() + [{"a": 1}, {"a": True, "b": 2}, {"b": True}, {"b": -1}, {3: 1}, {"z": -1}, [{}]]:
            self.assertFalse(value in cone, value)

    def test_is_within(self):
        wide, narrow = Cone(facts("a | b^2")), Cone(facts("a | b"))
        self.assertEqual([narrow.is_within(wide), wide.is_within(other=narrow), wide.is_within(wide)], [True, False, True])
        self.assertIs(Cone(facts("a = 1")).is_within(Cone(facts("a | c"))), True)
        self.assertIs(Cone(facts("a = 1")).is_within(Cone(facts("c | a"))), False)
        self.assertIs(Cone(facts("a = 1")).is_within(Cone(facts("a = c"))), False)
        self.assertIs(Cone(facts("a = b")).is_within(Cone([])), True)
        self.assertIs(Cone([]).is_within(Cone(facts("a | a"))), True)
        self.assertIs(Cone([]).is_within(Cone(facts("a | 1"))), False)

    def test_is_within_by_all_small_points(self):
        chance = Chance(9, "abc")
        for _ in range(100):
            one = Cone(chance.facts(3), names=chance.source.sample("abc", 2))
            other = Cone(chance.facts(2))
            seen = all(keeps(dict(point), fact) for point in points_below("abc", 5)
                       if point in one for fact in other.facts())
            # Names that one lacks are free in its facts as well.
            self.assertIs(one.is_within(other), seen, (one.facts(), other.facts()))

    def test_both_cones(self):
        one, other = Cone(facts("a | b"), names=["z"]), Cone(facts("b | c", "a | b"))
        both = one & other
        self.assertEqual(both.facts(), facts("a | b", "b | c", "a | b"))
        self.assertEqual(both.names(), ["a", "b", "c", "z"])
        self.assertEqual(both.rays(), Cone(facts("a | b", "b | c"), names=["z"]).rays())
        self.assertEqual((one.facts(), one.names()), (facts("a | b"), ["a", "b", "z"]))
        many = Cone([fact("a | b")] * 12) & Cone([fact("b | a")] * 12)
        self.assertEqual((len(many.facts()), many.rays()), (24, [{"a": 1, "b": 1}]))
        self.assertEqual(len((many & many).facts()), 48)

    def test_equal(self):
        self.assertTrue(Cone(facts("a | b", "b | a")) == Cone(facts("a = b")))
        self.assertTrue(Cone(facts("a | a"), names=["b"]) == Cone([], names=["b", "a"]))
        self.assertFalse(Cone(facts("a | a"), names=["b"]) == Cone([], names=["b"]))
        self.assertFalse(Cone([], names=["a"]) == Cone(facts("a | 1")))
        self.assertFalse(Cone(facts("a = 1")) == Cone(facts("b = 1")))
        self.assertFalse(Cone([]) == [])
        self.assertTrue(Cone([]) != None)  # noqa: E711

    def test_eight_and_nine_names(self):
        self.assertEqual(len(Cone([fact(EIGHT)], names=["a", "h"]).names()), 8)
        self.assertEqual(len(Cone([], names=list("abcdefgh") * 2)), 8)
        cone = Cone([fact(EIGHT)])
        for call in (lambda: Cone([fact(EIGHT)], names=["z"]), lambda: Cone([], names=list("abcdefghi")),
                     lambda: cone & Cone([], names=["z"]), lambda: cone.is_within(Cone(facts("z | z"))),
                     lambda: Cone(facts("i | i")).is_within(cone)):
            with self.assertRaises(TooMany) as caught:
                call()
            self.assertEqual((caught.exception.kind, caught.exception.limit), ("names", 8))

    def test_what_is_passed_or_returned_may_change_later(self):
        given, names = facts("a | b"), ["c"]
        cone = Cone(given, names=names)
        given.clear()
        names.clear()
        for found in (cone.facts(), cone.names(), cone.rays(), cone.rays()[0]):
            found.clear()
        self.assertEqual((cone.facts(), cone.names(), len(cone.rays())), (facts("a | b"), ["a", "b", "c"], 3))
        self.assertEqual(cone, Cone(facts("a | b"), names=["c"]))


class TestRefusals(unittest.TestCase):

    def test_facts(self):
        for value in no_lists():
            with self.assertRaises(InvalidFacts) as caught:
                Cone(value, names=5)
            self.assertIsNone(caught.exception.position)
        for value in odd_values() + [0, "a | b", size("a"), Both(fact("a | b"))]:
            with self.assertRaises(InvalidFacts) as caught:
                Cone([fact("a | b")] * 13 + [value, 5], names=5)
            self.assertEqual(caught.exception.position, 13)
        self.assertEqual(len(Cone([fact("a | b")] * 12).facts()), 12)
        with self.assertRaises(TooMany) as caught:
            Cone([fact("a | b")] * 13, names=5)
        self.assertEqual((caught.exception.kind, caught.exception.limit), ("facts", 12))

    def test_names(self):
        for value in no_lists():
            with self.assertRaises(InvalidNames) as caught:
                Cone([], names=value)
            self.assertIsNone(caught.exception.position)
        for value in no_names():
            with self.assertRaises(InvalidNames) as caught:
                Cone([], names=list("abcdefghi") + [value, 5])
            self.assertEqual(caught.exception.position, 9)

    def test_cones(self):
        cone = Cone([fact(EIGHT)])
        for value in odd_values() + [0, "a", [], [fact("a | b")], Divides(Size(), Size())]:
            for call in (lambda: cone & value, lambda: cone.is_within(value)):
                with self.assertRaises(InvalidCone) as caught:
                    call()
                self.assertIs(caught.exception.value, value)


if __name__ == "__main__":
    unittest.main()
