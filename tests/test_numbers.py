"""Names, numbers, points, primes, and the numbers of points."""

import itertools
import random
import unittest

from anyshape.errors import InvalidCount, InvalidName, InvalidPoints
from anyshape.failures import TooMany
from anyshape.numbers import is_name, is_numbers, is_point, numbers_of, primes
from anyshape.sizes import Size
from values import no_counts, no_dicts, no_lists, no_names


class TestKinds(unittest.TestCase):

    def test_names(self):
        for name in ("a", "z", "ab", "abcdefgh", "cls", "self", "zzzzzzzz"):
            self.assertIs(is_name(name), True)
            self.assertIs(is_name(value=name), True)
        for value in no_names():
            self.assertIs(is_name(value), False, value)

    def test_numbers(self):
        for value in ({}, {"a": 1}, {"a": 7, "b": 10 ** 29}, {"abcdefgh": 2}):
            self.assertIs(is_numbers(value), True)
            self.assertIs(is_numbers(value=value), True)
        for value in no_dicts():
            self.assertIs(is_numbers(value), False, value)
        for number in (0, -1, True, False, None, "1", [1], Size()):
            self.assertIs(is_numbers({"a": 1, "b": number}), False, number)
        for name in (1, True, None, "A", "", ("a",), "abcdefghi", b"a"):
            self.assertIs(is_numbers({"a": 1, name: 1}), False, name)

    def test_points(self):
        for value in ({}, {"a": 0}, {"a": 7, "b": 10 ** 100}, {"abcdefgh": 2}):
            self.assertIs(is_point(value), True)
            self.assertIs(is_point(value=value), True)
        for value in no_dicts():
            self.assertIs(is_point(value), False, value)
        for count in (-1, True, False, None, "1", [1], Size()):
            self.assertIs(is_point({"a": 1, "b": count}), False, count)
        for name in (1, True, None, "A", "", ("a",), "abcdefghi", b"a"):
            self.assertIs(is_point({"a": 1, name: 1}), False, name)


class TestPrimes(unittest.TestCase):

    def test_the_first_primes(self):
        self.assertEqual(list(primes(0)), [])
        self.assertEqual(list(primes(1)), [2])
        self.assertEqual(list(primes(many=12)), [2, 3, 5, 7, 11, 13, 17, 19, 23, 29, 31, 37])
        found = list(primes(300))
        self.assertEqual(found, [n for n in range(2, 1988) if all(n % k for k in range(2, n))])

    def test_it_goes_step_by_step(self):
        self.assertEqual(list(itertools.islice(primes(10 ** 25), 3)), [2, 3, 5])

    def test_it_raises_only_when_it_is_iterated(self):
        for value in no_counts():
            generator = primes(value)
            with self.assertRaises(InvalidCount) as caught:
                next(generator)
            self.assertIs(caught.exception.value, value)


class TestNumbersOf(unittest.TestCase):

    def test_no_points_and_empty_points(self):
        self.assertEqual(numbers_of([]), {})
        self.assertEqual(numbers_of([], "b", "a"), {"a": 1, "b": 1})
        self.assertEqual(numbers_of([{}, {}]), {})
        self.assertEqual(numbers_of([{}, {}, {"a": 2}]), {"a": 25})
        self.assertEqual(numbers_of([{"a": 0}]), {"a": 1})

    def test_keys_are_sorted_and_further_names_have_no_effect(self):
        found = numbers_of([{"n": 2}, {"n": 1, "m": 1}], "k", "z", "n", "k")
        self.assertEqual(list(found.items()), [("k", 1), ("m", 3), ("n", 12), ("z", 1)])
        self.assertEqual(numbers_of(({"n": 2}, {"n": 1, "m": 1})), {"m": 3, "n": 12})
        self.assertEqual(numbers_of(points=[{"b": 1}]), {"b": 2})

    def test_the_value_of_a_size_is_that_of_its_exponents_at_the_points(self):
        random_source = random.Random(8)
        for _ in range(60):
            points = [{name: random_source.randint(0, 3) for name in "abc" if random_source.random() < 0.7}
                      for _ in range(random_source.randint(0, 4))]
            size = Size({name: random_source.randint(0, 4) for name in "abcd"})
            expected = 1
            for prime, point in zip((2, 3, 5, 7), points):
                expected *= prime ** size.at_point(point)
            self.assertEqual(size.at(numbers_of(points, *"abcd")), expected)

    def test_500_and_501_digits(self):
        self.assertEqual(numbers_of([{"a": 1660}]), {"a": 2 ** 1660})
        self.assertEqual(len(str(2 ** 1660)), 500)
        self.assertEqual(numbers_of([{"a": 499}, {}, {"a": 499}]), {"a": 10 ** 499})
        for points in ([{"a": 1661}], [{"a": 500}, {}, {"a": 500}], [{"b": 1, "a": 10 ** 1000}],
                       [{}] * 299 + [{"a": 152}], [{"a": 1000}, {"a": 500}]):
            with self.assertRaises(TooMany) as caught:
                numbers_of(points)
            self.assertEqual((caught.exception.kind, caught.exception.limit), ("digits", 500))
        self.assertEqual(numbers_of([{}] * 299 + [{"a": 151}]), {"a": 1987 ** 151})

    def test_points_that_are_none(self):
        for value in no_lists():
            with self.assertRaises(InvalidPoints) as caught:
                numbers_of(value, 3)
            self.assertIsNone(caught.exception.position)
        for value in no_dicts() + [{"a": True}, {"a": -1}, {"A": 1}, {True: 1}]:
            with self.assertRaises(InvalidPoints) as caught:
                numbers_of([{"a": 10 ** 9}, value, None], 3)
            self.assertEqual(caught.exception.position, 1)

    def test_names_that_are_none(self):
        for value in no_names():
            with self.assertRaises(InvalidName) as caught:
                numbers_of([{"a": 10 ** 9}], "a", value, 5)
            self.assertIs(caught.exception.value, value)

    def test_nothing_that_was_passed_changes(self):
        points = [{"b": 1, "a": 2}]
        found = numbers_of(points)
        found["a"] = 0
        self.assertEqual(points, [{"b": 1, "a": 2}])
        self.assertEqual(numbers_of(points), {"a": 4, "b": 2})


if __name__ == "__main__":
    unittest.main()
