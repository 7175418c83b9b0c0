"""Sizes: what they are made of, their texts, their values."""

import random
import unittest

from anyshape.errors import InvalidCount, InvalidName, InvalidNumbers, InvalidPoint, InvalidSize, InvalidText
from anyshape.failures import NotWhole
from anyshape.sizes import Size
from values import no_counts, no_dicts, no_lists, no_names, odd_values

LONG = 10 ** 29 + 7


class TestMaking(unittest.TestCase):

    def test_without_names(self):
        for size in (Size(), Size(None), Size({}), Size.of(), Size.read("1"), Size.product(), Size({"a": 0})):
            self.assertEqual(size, Size())
            self.assertEqual((str(size), repr(size), len(size), size.names()), ("1", "Size('1')", 0, []))
            self.assertEqual((size.at({}), size.at_point({}), size.is_whole), (1, 0, True))

    def test_names_with_exponent_0_are_no_part(self):
        size = Size({"c": -2, "b": 0, "a": 1})
        self.assertEqual(size, Size(exponents={"a": 1, "c": -2}))
        self.assertEqual(list(size.exponents().items()), [("a", 1), ("c", -2)])
        self.assertNotIn("b", size)

    def test_other_exponents_are_refused(self):
        for value in [value for value in no_dicts() if value is not None]:
            with self.assertRaises(InvalidSize) as caught:
                Size(value)
            self.assertIs(caught.exception.value, value)
        for name in (1, True, None, "A", "", ("a",), "abcdefghi", b"a"):
            with self.assertRaises(InvalidSize) as caught:
                Size({"a": 1, name: 1})
            self.assertEqual(caught.exception.value, {"a": 1, name: 1})
        for exponent in (True, False, None, "1", [1], {}, Size()):
            with self.assertRaises(InvalidSize) as caught:
                Size({"a": 1, "b": exponent})
            self.assertEqual(caught.exception.value, {"a": 1, "b": exponent})

    def test_of(self):
        self.assertEqual(Size.of(b=2, a=-1, c=0), Size({"a": -1, "b": 2}))
        self.assertEqual(Size.of(self=1, size=2, text=1), Size({"self": 1, "size": 2, "text": 1}))
        for wrong in ({"a": True}, {"a": None}, {"abcdefghi": 1}, {"A": 1}, {"a": 1, "b": "1"}):
            with self.assertRaises(InvalidSize) as caught:
                Size.of(**wrong)
            self.assertEqual(caught.exception.value, wrong)

    def test_product(self):
        a, b = Size.of(a=1, c=-2), Size.of(b=2, c=2)
        self.assertEqual(Size.product(a, b, a), Size.of(a=2, b=2, c=-2))
        self.assertEqual(Size.product(a), a)
        for value in odd_values() + [0, 1, {}, {"a": 1}, "a"]:
            with self.assertRaises(InvalidSize) as caught:
                Size.product(a, value, 7)
            self.assertIs(caught.exception.value, value)

    def test_what_is_passed_or_returned_may_change_later(self):
        given = {"a": 1}
        size = Size(given)
        given["b"] = 2
        size.exponents()["c"] = 3
        size.names().append("d")
        self.assertEqual(size, Size.of(a=1))
        self.assertEqual((size.names(), size.exponents()), (["a"], {"a": 1}))


class TestTexts(unittest.TestCase):

    def test_texts(self):
        for text, size in (("a", Size.of(a=1)), ("a*b^2", Size.of(b=2, a=1)), ("k^-1*m*n^2", Size.of(n=2, m=1, k=-1)),
                           ("abcdefgh^-10", Size.of(abcdefgh=-10)), ("a^" + str(LONG), Size.of(a=LONG)),
                           ("a*ab*b", Size.of(b=1, ab=1, a=1)), ("z^-" + str(LONG), Size.of(z=-LONG))):
            self.assertEqual(str(size), text)
            self.assertEqual(repr(size), f"Size('{text}')")
            self.assertEqual(Size.read(text), size)
            self.assertEqual(Size.read(text=text), size)

    def test_very_long_exponents(self):
        size = Size.of(a=1, b=-1)
        for _ in range(200):
            size = size.power(10 ** 29)
        text = f"a^1{'0' * 5800}*b^-1{'0' * 5800}"
        self.assertEqual(str(size), text)
        self.assertEqual(Size.read(text), size)
        self.assertEqual(size.at({"a": 6, "b": 6}), 1)

    def test_other_texts(self):
        for text in ("", " ", "1*a", "a*1", "1*1", "a*", "*a", "a**b", "b*a", "a*a", "a^1", "a^0", "a^-0", "a^01",
                     "a^-02", "a^+2", "a^", "a^-", "a^--2", "a^2^3", "^2", "a^b", "A", "a b", "a ", " a", "a\n", "\na",
                     "a*b\n", "abcdefghi", "0", "2", "-1", "a^2.0", "a^1_0", "a^\u0662", "a^\u00b2", "\u00e9", "a^ 2",
                     "a*b^1", "a^2*a^3", "a/b", "1^2", "a^0x1", "a*b*a"):
            with self.assertRaises(InvalidText, msg=text) as caught:
                Size.read(text)
            self.assertEqual(caught.exception.line, 1)

    def test_no_strings(self):
        for value in (None, 1, 0, True, b"a", ["a"], ("a",), {}, Size.of(a=1), len):
            with self.assertRaises(InvalidText) as caught:
                Size.read(value)
            self.assertEqual(caught.exception.line, 0)


class TestParts(unittest.TestCase):

    def test_whole_top_and_bottom(self):
        size = Size.of(a=2, b=-3, c=1, d=-1)
        self.assertIs(size.is_whole, False)
        self.assertEqual((size.top, size.bottom), (Size.of(a=2, c=1), Size.of(b=3, d=1)))
        self.assertIs(size.top.is_whole, True)
        self.assertEqual(size.top.over(size.bottom), size)
        self.assertEqual((size.top.bottom, size.bottom.bottom), (Size(), Size()))

    def test_names_and_exponents(self):
        size = Size.of(c=3, a=-1, bb=2)
        self.assertEqual(size.names(), ["a", "bb", "c"])
        self.assertEqual(list(size.exponents().items()), [("a", -1), ("bb", 2), ("c", 3)])
        self.assertEqual([size.exponent("c"), size.exponent(name="b")], [3, 0])
        self.assertEqual(len(size), 3)
        for value in no_names():
            with self.assertRaises(InvalidName) as caught:
                size.exponent(value)
            self.assertIs(caught.exception.value, value)

    def test_in(self):
        size = Size.of(c=3, a=-1)
        self.assertTrue("a" in size and "c" in size)
        for value in no_names() + ["b", "ac", size]:
            self.assertFalse(value in size, value)

    def test_equal(self):
        self.assertTrue(Size.of(a=1) == Size.read("a"))
        self.assertFalse(Size.of(a=1) != Size.read("a"))
        for other in (Size(), Size.of(b=1), Size.of(a=2), Size.of(a=1, b=1), "a", {"a": 1}, None, 1, True):
            self.assertFalse(Size.of(a=1) == other)
            self.assertTrue(Size.of(a=1) != other)
        self.assertFalse(Size() == 1)


class TestProducts(unittest.TestCase):

    def test_product_and_quotient(self):
        a, b = Size.of(a=1, c=-2), Size.of(b=2, c=2)
        self.assertEqual(a * b, Size.of(a=1, b=2))
        self.assertEqual(a.over(b), Size.of(a=1, b=-2, c=-4))
        self.assertEqual(a.over(other=a), Size())
        self.assertEqual((a, b), (Size.of(a=1, c=-2), Size.of(b=2, c=2)))
        for value in odd_values() + [0, 1, {}, {"a": 1}, "a", "1"]:
            with self.assertRaises(InvalidSize) as caught:
                a * value
            self.assertIs(caught.exception.value, value)
            with self.assertRaises(InvalidSize) as caught:
                a.over(value)
            self.assertIs(caught.exception.value, value)

    def test_power(self):
        size = Size.of(a=2, b=-1)
        self.assertEqual(size.power(0), Size())
        self.assertEqual(size.power(1), size)
        self.assertEqual(size.power(count=3), size * size * size)
        self.assertEqual(size.power(LONG), Size.of(a=2 * LONG, b=-LONG))
        for value in no_counts():
            with self.assertRaises(InvalidCount) as caught:
                size.power(value)
            self.assertIs(caught.exception.value, value)


class TestValues(unittest.TestCase):

    def test_integers(self):
        size = Size.of(n=2, m=1, k=-1)
        self.assertEqual(size.at({"n": 3, "m": 4, "k": 6}), 6)
        self.assertEqual(size.at(numbers={"n": 3, "m": 4, "k": 1, "further": 9}), 36)
        self.assertEqual(Size.of(a=9).at({"a": 10 ** 29}), 10 ** 261)
        self.assertEqual(Size.of(a=1, b=1).at({"a": 1, "b": 1}), 1)

    def test_no_integer(self):
        size = Size.of(n=2, k=-1)
        for numbers in ({"n": 1, "k": 2}, {"n": 3, "k": 27}, {"n": 6, "k": 8}):
            with self.assertRaises(NotWhole) as caught:
                size.at(numbers)
            self.assertEqual(caught.exception.size, size)

    def test_all_small_quotients(self):
        random_source = random.Random(3)
        for _ in range(400):
            size = Size({name: random_source.randint(-3, 3) for name in "abc"})
            numbers = {name: random_source.randint(1, 36) for name in "abc"}
            top, bottom = 1, 1
            for name in "abc":
                top *= numbers[name] ** max(0, size.exponent(name))
                bottom *= numbers[name] ** max(0, -size.exponent(name))
            if top % bottom == 0:
                self.assertEqual(size.at(numbers), top // bottom)
            else:
                with self.assertRaises(NotWhole):
                    size.at(numbers)

    def test_long_exponents(self):
        self.assertEqual(Size.of(a=LONG, b=-LONG).at({"a": 1, "b": 1}), 1)
        self.assertEqual(Size.of(a=LONG, b=-LONG).at({"a": 12, "b": 12}), 1)
        self.assertEqual(Size.of(a=LONG, b=1 - LONG).at({"a": 12, "b": 12}), 12)
        self.assertEqual(Size.of(a=LONG, b=-2 * LONG, c=3).at({"a": 36, "b": 6, "c": 2}), 8)
        with self.assertRaises(NotWhole):
            Size.of(a=-LONG).at({"a": 2})
        with self.assertRaises(NotWhole):
            Size.of(a=LONG, b=-LONG - 1).at({"a": 2, "b": 2})

    def test_wrong_numbers(self):
        size = Size.of(a=1, b=-1)
        wrong = no_dicts() + [{}, {"a": 2}, {"a": 2, "b": 0}, {"a": 2, "b": True}, {"a": 2, "b": -1}, {"a": 2, "b": "1"},
                              {"a": 2, "b": 1, "c": 0}, {"a": 2, "b": 1, "C": 1}, {"a": 2, "b": 1, 3: 1}]
        for value in wrong:
            with self.assertRaises(InvalidNumbers) as caught:
                size.at(value)
            self.assertIs(caught.exception.value, value)
        for value in no_dicts() + [{"a": 0}, {"a": True}]:
            with self.assertRaises(InvalidNumbers):
                Size().at(value)

    def test_at_points(self):
        size = Size.of(n=2, m=1, k=-1)
        self.assertEqual(size.at_point({"n": 1, "k": 5}), -3)
        self.assertEqual(size.at_point(point={}), 0)
        self.assertEqual(size.at_point({"n": 10 ** 100, "other": 3}), 2 * 10 ** 100)
        for value in no_dicts() + no_lists()[-1:] + [{"n": -1}, {"n": True}, {"z": False}, {"N": 1}, {2: 1}]:
            with self.assertRaises(InvalidPoint) as caught:
                size.at_point(value)
            self.assertIs(caught.exception.value, value)


if __name__ == "__main__":
    unittest.main()
