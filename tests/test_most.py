"""Sizes that are covered by others, and programs that never make greater arrays."""

import itertools
import unittest

from anyshape.errors import InvalidFacts, InvalidProgram, InvalidSize, InvalidSizes
from anyshape.failures import DoesNotRun, TooMany
from anyshape.follow import is_why
from anyshape.facts import Divides
from anyshape.most import Above, Covered, Greater, NeverGreater, cover, is_cover, never_greater
from anyshape.shapes import Answer, Fails, shape
from anyshape.sizes import Size
from makers import Maker, arrays_at, kept_numbers, value
from sums import Chance, facts, holds_at, is_right_why, keeps, points_below, size
from test_alike import joint, known
from test_shapes import Box, program, sizes
from values import no_lists, odd_values

N, M, K, ONE = size("n"), size("m"), size("k"), Size()
NO_SIZES = odd_values() + [0, 1, "n", "1", {}, {"n": 1}, [N], (N,), size("n^-1"), Size.of(n=1, m=-1), Box()]


class TestAnswers(unittest.TestCase):

    def made(self):
        return [(Covered((1, 2), (1, (0,), {})), "Covered((1, 2), (1, (0,), {}))", True), (Above({"n": 1}), "Above({'n': 1})", False),
                (NeverGreater((Covered((1,), (1, (), {})),)), "NeverGreater((Covered((1,), (1, (), {})),))", True), (Greater("x", {"n": 2}), "Greater('x', {'n': 2})", False)]

    def test_classes(self):
        for made, text, is_yes in self.made():
            self.assertEqual((repr(made), made.is_yes, made.__class__.__bases__), (text, is_yes, (Answer,)))
            with self.assertRaises(AttributeError):
                made.is_yes = not is_yes

    def test_parts(self):
        for kind, names in ((Covered, "counts reason"), (Above, "point"), (NeverGreater, "covers"), (Greater, "name point")):
            parts = {name: ([at], {"n": at}) for at, name in enumerate(names.split())}
            made = kind(**parts)
            self.assertEqual({name: getattr(made, name) for name in parts}, parts)
            self.assertEqual(made, kind(*parts.values()))
            for name in parts:
                self.assertNotEqual(made, kind(**{**parts, name: ([9], {"n": 9})}))
            for name in parts:
                parts[name][0].append(5)
                parts[name][1]["n"] = 7
                self.assertNotEqual(getattr(made, name), parts[name])
        for value_passed in odd_values():
            self.assertEqual((Covered(value_passed, value_passed), Above(value_passed), Greater(value_passed, 0)),
                             (Covered(value_passed, value_passed), Above(value_passed), Greater(value_passed, 0)))
        inner = Covered((1,), (1, (), {"n": 1}))
        outer = NeverGreater((inner,))
        inner.reason[2]["n"] = 2
        self.assertEqual(outer, NeverGreater((Covered((1,), (1, (), {"n": 1})),)))

    def test_equality(self):
        made = [one for one, _, _ in self.made()] + [Above({}), Greater("y", {"n": 2}), None, Fails(0, 0, [])]
        for (place, one), (other_place, other) in itertools.product(enumerate(made), repeat=2):
            self.assertEqual(one == other, place == other_place)


class TestCover(unittest.TestCase):

    def check(self, text, others, *given, is_covered=True):
        one, others, given = size(text), list(sizes(others)), facts(*given)
        found = cover(one, others, given)
        self.assertIs(found.is_yes, is_covered)
        self.assert_right(one, others, given, found)
        return found

    def assert_right(self, one, others, given, found):
        if isinstance(found, Covered):
            self.assertTrue(is_cover(one, others, found, given))
            self.assertIsInstance(found.counts, tuple)
            self.assertEqual(len(found.counts), len(others))
            self.assertTrue(all(isinstance(count, int) and count >= 0 for count in found.counts))
            power = sum(found.counts)
            self.assertGreater(power, 0)
            product = Size.product(*[other.power(count) for other, count in zip(others, found.counts)])
            self.assertTrue(is_right_why(given, Divides(one.power(power), product), found.reason))
            self.assertTrue(is_why(given, Divides(one.power(power), product), found.reason))
        else:
            self.assertIsInstance(found, Above)
            self.assertFalse(is_cover(one, others, found, given))
            self.assertTrue(all(keeps(found.point, fact) for fact in given))
            self.assertTrue(all(other.at_point(found.point) < one.at_point(found.point) for other in others))
            self.assertEqual(list(found.point), sorted(name for name in found.point if found.point[name] > 0))

    def test_by_one(self):
        self.assertEqual(self.check("n", "m n k").counts, (0, 1, 0))
        self.check("1", "n")
        self.check("1", "1")
        self.check("n", "n*m")
        self.check("n", "m", "n | m")
        self.check("n*n", "m k", "n | m", "n*m | k")
        self.check("n", "m", "n = m")
        self.check("n", "m", "m = n*k")

    def test_by_several_together(self):
        found = self.check("n*m", "n*n m*m")
        self.assertEqual(found.counts[0], found.counts[1])
        self.check("n*m", "n*n", is_covered=False)
        self.check("n*m", "m*m", is_covered=False)
        self.check("n*m*k", "n*n*n m*m*m k*k*k")
        self.check("n*m*k", "n*n*n m*m*m", is_covered=False)
        self.check("n*n*m", "n*n*n m*m*m")
        found = self.check("k", "n m", "k*k | n*m")
        self.assertEqual(found.counts, (1, 1))
        self.check("k", "n m", "k*k*k = n*m*m")
        self.check("n", "m k", "n*q | m", "n | k*q")

    def test_above(self):
        self.assertEqual(self.check("n", "m k", is_covered=False).point, {"n": 1})
        self.check("n", "1", is_covered=False)
        self.check("n*m", "n m", is_covered=False)
        self.check("n", "m", "m | n", is_covered=False)
        self.check("n", "m k", "m*k = n*n", "n | q*m", is_covered=True)
        self.check("n", "m", "m*k = n", is_covered=False)
        self.check("n", "m", "m*k = n", "k | 1")

    def test_random_ones(self):
        seen = {True: 0, False: 0}
        for seed in range(250):
            chance = Chance(seed, "nmk")
            one, others, given = chance.size(3, 3), [chance.size(3, 3) for _ in range(chance.source.randint(1, 4))], chance.facts(3)
            found = cover(one, others, given)
            seen[found.is_yes] += 1
            self.assert_right(one, others, given, found)
            self.assertEqual(found, cover(one, tuple(others), tuple(given)))
            above = [point for point in points_below("nmk", 4) if all(keeps(point, fact) for fact in given)
                     and all(other.at_point(point) < one.at_point(point) for other in others)]
            if above:
                self.assertIsInstance(found, Above)
        self.assertGreater(min(seen.values()), 60)

    def test_at_numbers(self):
        for seed in range(60):
            chance = Chance(seed, "nm")
            one, others, given = chance.size(2, 2), [chance.size(2, 2) for _ in range(3)], chance.facts(2)
            if cover(one, others, given).is_yes:
                for numbers in itertools.product(range(1, 9), repeat=2):
                    at = dict(zip("nm", numbers))
                    if all(holds_at(fact, at) for fact in given):
                        self.assertLessEqual(value(one, at), max(value(other, at) for other in others))

    def test_names_and_lists(self):
        others = [N, M]
        found = cover(size=N * M, others=[N * N, M * M], facts=())
        self.assertTrue(is_cover(size=N * M, others=[N * N, M * M], value=found, facts=[]))
        self.assertEqual(cover(N, others), Covered((1, 0), (1, (), {})))
        cover(N, others).reason[2]["n"] = 5
        self.assertEqual(cover(N, others), Covered((1, 0), (1, (), {})))


class TestIsCover(unittest.TestCase):

    def test_counts_and_reasons(self):
        given = facts("n*k | m*m", "m = q")
        one, others = N, [M, size("q"), K]
        found = cover(one, [M], facts("n*k | m*m", "m = q")[:0] + facts("n | m"))
        self.assertEqual(found, Covered((1,), (1, (1,), {})))
        for counts, reason in (((1, 1, 1), (1, (1, 1), {})), ((2, 0, 1), (1, (1, 0), {"n": -2})), ((1, 1, 1), (1, (1, -1), {}))):
            self.assertIs(is_cover(one, others, Covered(counts, reason), given), is_right_why(given, Divides(N.power(sum(counts)), M.power(counts[0]) * size("q").power(counts[1]) * K), reason))
        good = Covered((1, 1), (1, (), {}))
        one, others = N * M, [N * N, M * M]
        self.assertTrue(is_cover(one, others, good))
        self.assertTrue(is_cover(one, others, Covered((2, 2), (1, (), {}))))
        self.assertTrue(is_cover(one, others, Covered((2, 2), (5, (), {"zz": 0}))))
        for counts in ((1, 0), (0, 1), (0, 0), (1,), (1, 1, 0), [1, 1], (True, 1), (1, True), (-1, 3), ("1", 1), None, 0, (), (1, 2), Box(), (Box(), 1)):
            self.assertIs(is_cover(one, others, Covered(counts, (1, (), {}))), False)
        for reason in (None, (), (0, (), {}), (1, (0,), {}), (1, [], {}), (1, (), {"n": 1}), (1, (), []), (True, (), {}), [1, (), {}], (1, ()), Box(), ((1, (), {}), (1, (), {}))):
            self.assertIs(is_cover(one, others, Covered((1, 1), reason)), False)
        self.assertTrue(is_cover(N, [N * M], Covered((1,), (1, (), {"m": 1}))))
        self.assertFalse(is_cover(N, [N * M], Covered((0,), (1, (), {}))))
        self.assertFalse(is_cover(ONE, [N], Covered((0,), (1, (), {}))))
        for other in odd_values() + [0, Above({}), ((1, 1), (1, (), {})), Fails(0, 0, []), Greater("x", {}), Covered, Box()]:
            self.assertIs(is_cover(one, others, other), False)

    def test_weights(self):
        given = facts("n | m", "m = k")
        self.assertTrue(is_cover(N, [K], Covered((1,), (1, (1, 1), {})), given))
        self.assertFalse(is_cover(N, [K], Covered((1,), (1, (1, -1), {})), given))
        self.assertFalse(is_cover(M, [N], Covered((1,), (1, (-1, 0), {})), given))
        self.assertTrue(is_cover(K, [M], Covered((1,), (1, (0, -1), {})), given))

    def functions(self):
        return [cover, lambda one, others, given=(): is_cover(one, others, None, given), lambda one, others, given=(): is_cover(size=one, others=others, value=0, facts=given)]

    def test_errors_in_their_sequence(self):
        for function in self.functions():
            for bad in NO_SIZES:
                with self.assertRaises(InvalidSize) as caught:
                    function(bad, None, None)
                self.assertIs(caught.exception.value, bad)
                with self.assertRaises(InvalidSizes) as caught:
                    function(N, [M, bad], None)
                self.assertEqual(caught.exception.position, 1)
            for bad in no_lists() + [[], (), Box()]:
                with self.assertRaises(InvalidSizes) as caught:
                    function(N, bad, None)
                self.assertIsNone(caught.exception.position)
            for bad in no_lists() + [Box()]:
                with self.assertRaises(InvalidFacts) as caught:
                    function(N, [M] * 28, bad)
                self.assertIsNone(caught.exception.position)
            with self.assertRaises(InvalidFacts) as caught:
                function(N, [M] * 28, facts("n | m") * 13 + ["n | m"])
            self.assertEqual(caught.exception.position, 13)

    def test_limits(self):
        nine = [size(name) for name in "abcdefghi"]
        for function in self.functions():
            for others, given, kind, limit in (([M] * 28, facts("n | m") * 13, "facts", 12), (nine * 4, facts("n | m") * 12, "sizes", 27), ([M] * 28, (), "sizes", 27),
                                               (nine[:8], (), "names", 8), (nine[:6], facts("x | y", "y | z")[:1], "names", 8)):
                with self.assertRaises(TooMany) as caught:
                    function(N, others, given)
                self.assertEqual((caught.exception.kind, caught.exception.limit), (kind, limit))
            function(N, [M] * 27, facts("n | m") * 12)
            function(N, nine[:7])
        self.assertEqual(cover(N, [M] * 26 + [N]).counts, (0,) * 26 + (1,))


class TestNeverGreater(unittest.TestCase):

    def check(self, one, other, name=None):
        found = never_greater(one, other)
        given = joint(one, other)
        others = [total_of(other, array, given) for array in other.arrays()]
        self.assertEqual(found.is_yes, name is None)
        if name is None:
            self.assertEqual(len(found.covers), len(one.arrays()))
            self.assertIsInstance(found.covers, tuple)
            for array, told in zip(one.arrays(), found.covers):
                self.assertTrue(is_cover(total_of(one, array, given), others, told, given))
        else:
            self.assertEqual(found.name, name)
            self.assertTrue(all(keeps(found.point, fact) for fact in given))
            mine = total_of(one, name, given).at_point(found.point)
            self.assertTrue(all(total.at_point(found.point) < mine for total in others))
        return found

    def test_both_answers(self):
        small = program({"x": "n m"}, ("y", "merge", "x", 0, 2), ("s", "sum", "y", (0,)))
        great = program({"x": "n m"}, ("y", "spread", "x", 0, N), ("s", "sum", "y", (1, 2)))
        self.check(small, great)
        self.check(great, small, "y")
        self.check(small, small)
        self.check(great.knowing(*facts("n = 1")), small)
        self.check(great, small.knowing(*facts("n | 1")))
        self.check(program({"x": "n*m"}), program({"y": "n n", "z": "m m"}))
        self.check(program({"x": "n"}), program({"y": "m", "z": "k"}), "x")
        self.check(program({"x": "n"}), program({"y": "m", "z": "k"}, given=("n*n | m*k",)))
        self.assertEqual(never_greater(one=small, other=small), never_greater(small, small))

    def test_the_first_array_that_is_not_covered(self):
        one = program({"x": "n", "y": "m"}, ("a", "spread", "x", 0, K), ("b", "spread", "a", 0, K), ("c", "spread", "y", 0, K))
        self.check(one, program({"x": "n", "y": "m"}), "a")
        self.check(one, program({"x": "n", "y": "m"}, ("a", "spread", "x", 0, K)), "b")
        self.check(one, program({"x": "n*k*k", "y": "m"}), "c")
        self.check(one, program({"x": "n*k*k"}), "y")
        self.check(one, program({"x": "n*k*k", "y": "k*m"}))

    def test_random_ones(self):
        seen = {True: 0, False: 0}
        for seed in range(120):
            maker = Maker(seed)
            one, other = maker.program(4, facts=1), maker.program(5, facts=1)
            given = joint(one, other)
            found = never_greater(one, other)
            seen[found.is_yes] += 1
            self.check(one, other, None if found.is_yes else found.name)
            if found.is_yes:
                first, second = known(one, given), known(other, given)
                for numbers in kept_numbers(program({"q": "n m k"}).knowing(*given), 4):
                    tops = [max(len(cells) for _, cells in arrays_at(made, numbers)[0].values()) for made in (first, second)]
                    self.assertLessEqual(tops[0], tops[1])
        self.assertGreater(min(seen.values()), 20)

    def test_errors_in_their_sequence(self):
        many = facts(*[f"n | {'m*' * at}m" for at in range(1, 14)])
        fails = program({"x": "a b c d"}, ("y", "turn", "x", 0), ("z", "drop", "y", 0))
        others = program({"x": "e f g h n m"[:7]}, ("z", "drop", "x", 0))
        with self.assertRaises(TooMany) as caught:
            never_greater(fails.knowing(*many[:9]), program({"x": "n m e f"}, ("z", "drop", "x", 0)).knowing(*many[8:13]))
        self.assertEqual((caught.exception.kind, caught.exception.limit), ("facts", 12))
        with self.assertRaises(TooMany) as caught:
            never_greater(fails, others.knowing(*many[:2]))
        self.assertEqual((caught.exception.kind, caught.exception.limit), ("names", 8))
        for one, other, line in ((fails, others, 1), (others, fails, 0), (program({"x": "a"}), fails, 1), (fails, program({"x": "a"}), 1)):
            with self.assertRaises(DoesNotRun) as caught:
                never_greater(one, other)
            self.assertEqual(caught.exception.line, line)
        self.assertIsInstance(never_greater(fails, program({"x": "a b c d"}, given=("a = 1",))), NeverGreater)
        self.assertIsInstance(never_greater(program({"x": "a b c d"}, given=("a = 1",)), fails), NeverGreater)
        for value_passed in (None, 0, "x", Box()):
            with self.assertRaises(InvalidProgram):
                never_greater(value_passed, fails)


def total_of(made, name, given):
    """The number of cells of an array."""
    return Size.product(*shape(known(made, given), name))


if __name__ == "__main__":
    unittest.main()
