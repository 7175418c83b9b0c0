"""Digits and rows: places, melting and cutting."""

import random
import unittest

from anyshape.errors import InvalidDigits, InvalidFacts, InvalidIndex, InvalidNumbers, InvalidSize
from anyshape.failures import CannotCut, NotWhole, TooMany
from anyshape.follow import Always
from anyshape.rows import Digit, Row, Straight, Turned, Unused
from anyshape.sizes import Size
from sums import fact, facts, size
from values import no_dicts, no_lists, odd_values

N, M, K, ONE = size("n"), size("m"), size("k"), Size()
NO_SIZES = odd_values() + [0, 1, "n", {"n": 1}, [N], (N,)]


def row(text):
    """The row that is told like `n:1 m:n turned k`, the lowest digit first; a digit without a factor is unused."""
    digits = []
    for part in text.split():
        kind = Turned if part.startswith("-") else Straight
        radix, _, factor = part.removeprefix("-").partition(":")
        digits.append(kind(size(radix), size(factor)) if factor else Unused(size(radix)))
    return Row(digits)


class TestDigits(unittest.TestCase):

    def test_classes(self):
        for kind, way in ((Unused, "unused"), (Straight, "straight"), (Turned, "turned")):
            self.assertEqual((kind.__bases__, kind.WAY), ((Digit,), way))

    def test_parts(self):
        for kind, name in ((Straight, "Straight"), (Turned, "Turned")):
            made = kind(N, M)
            self.assertEqual((made.radix, made.factor, repr(made)), (N, M, f"{name}(Size('n'), Size('m'))"))
            self.assertEqual(made, kind(radix=N, factor=M))
            self.assertEqual(made.WAY, name.lower())
        made = Unused(radix=N)
        self.assertEqual((made.radix, made.factor, repr(made), made.WAY), (N, None, "Unused(Size('n'))", "unused"))
        self.assertEqual(Straight(size("n^-1"), ONE).radix, size("n^-1"))
        for digit in (Straight(N, M), Unused(N)):
            for name in ("radix", "factor"):
                with self.assertRaises(AttributeError):
                    setattr(digit, name, K)

    def test_the_other_way(self):
        self.assertEqual((Straight(N, M).turned(), Turned(N, M).turned(), Unused(N).turned()), (Turned(N, M), Straight(N, M), Unused(N)))

    def test_equality(self):
        digits = [Unused(N), Unused(M), Straight(N, M), Straight(N, N), Straight(M, M), Turned(N, M), Turned(N, N), Turned(M, M)]
        for at, one in enumerate(digits):
            for other in digits[at + 1:] + [None, N, "n", (N, M)]:
                self.assertFalse(one == other)
                self.assertFalse(other == one)
        self.assertEqual((Unused(N), Straight(N, M), Turned(N, M)), (Unused(size("n")), Straight(N, size("m")), Turned(size("n"), M)))

    def test_only_sizes(self):
        for value in NO_SIZES:
            for call in (lambda: Unused(value), lambda: Straight(value, 3), lambda: Straight(N, value), lambda: Turned(value, 3), lambda: Turned(N, value)):
                with self.assertRaises(InvalidSize) as caught:
                    call()
                self.assertIs(caught.exception.value, value)


class TestRows(unittest.TestCase):

    def test_told(self):
        made = row("n:1 m -k:m*n")
        self.assertEqual(made.digits(), [Straight(N, ONE), Unused(M), Turned(K, N * M)])
        self.assertEqual((len(made), list(made), made.total), (3, made.digits(), N * M * K))
        self.assertEqual(made.cuts(), [ONE, N, N * M, N * M * K])
        self.assertEqual((Row().digits(), len(Row()), Row().total, Row().cuts(), repr(Row())), ([], 0, ONE, [ONE], "Row([])"))
        self.assertEqual(repr(row("n:1")), "Row([Straight(Size('n'), Size('1'))])")
        self.assertEqual(row("n n^-1:1").cuts(), [ONE, N, ONE])
        with self.assertRaises(AttributeError):
            made.total = ONE

    def test_equality(self):
        self.assertEqual(row("n:1 m"), Row(digits=(Straight(N, ONE), Unused(M))))
        for other in (row("n:1"), row("m n:1"), row("n:1 m:1"), Row(), [Straight(N, ONE), Unused(M)], None):
            self.assertFalse(row("n:1 m") == other)

    def test_what_was_passed_or_returned_may_change(self):
        digits = [Unused(N)]
        made = Row(digits)
        digits.append(Unused(M))
        made.digits().clear()
        made.cuts().clear()
        self.assertEqual(made, Row([Unused(N)]))

    def test_only_digits(self):
        for value in no_lists() + [row("n")]:
            with self.assertRaises(InvalidDigits) as caught:
                Row(value)
            self.assertIsNone(caught.exception.position)
        for value in NO_SIZES + [N, row("n"), [Unused(N)]]:
            with self.assertRaises(InvalidDigits) as caught:
                Row([Unused(N), Unused(N), value, None])
            self.assertEqual(caught.exception.position, 2)


class TestPlaces(unittest.TestCase):

    def test_by_hand(self):
        numbers = {"n": 2, "m": 3, "k": 4}
        self.assertEqual([row("n:1 m -k:m*n").place(index, numbers) for index in range(24)],
                         [18, 19] * 3 + [12, 13] * 3 + [6, 7] * 3 + [0, 1] * 3)
        self.assertEqual([row("m:n n:1").place(index=index, numbers=numbers) for index in range(6)], [0, 2, 4, 1, 3, 5])
        self.assertEqual((Row().place(0, {}), row("n").place(1, {"n": 2})), (0, 0))
        self.assertEqual([row("k*n^-1:m*n^-1").place(index, {"n": 2, "m": 6, "k": 4}) for index in (0, 1)], [0, 3])

    def test_which_error_comes_first(self):
        made = row("n*m^-1:n -k:k^-1 m")
        for value in no_dicts() + [{"n": 4, "m": 2}, {"n": 4, "m": 2, "k": 0}, {"n": 4, "m": 2, "k": True}, {}]:
            with self.assertRaises(InvalidNumbers) as caught:
                made.place(None, value)
            self.assertIs(caught.exception.value, value)
        for numbers, broken in (({"n": 3, "m": 2, "k": 2}, "n*m^-1"), ({"n": 4, "m": 2, "k": 2}, "k^-1"), ({"n": 3, "m": 2, "k": 1}, "n*m^-1")):
            with self.assertRaises(NotWhole) as caught:
                made.place(None, numbers)
            self.assertEqual(caught.exception.size, size(broken))
        with self.assertRaises(NotWhole) as caught:
            row("n:m^-1 n*k^-1").place(0, {"n": 3, "m": 2, "k": 2})
        self.assertEqual(caught.exception.size, size("n*k^-1"))
        for value in odd_values() + [4, 5, True, [0], "0"]:
            with self.assertRaises(InvalidIndex) as caught:
                made.place(value, {"n": 4, "m": 2, "k": 1})
            self.assertIs(caught.exception.value, value)
        for value in no_dicts():
            with self.assertRaises(InvalidNumbers):
                Row().place(None, value)


class TestMelting(unittest.TestCase):

    def test_by_hand(self):
        for text, given, told in (("n:1 m:n", (), "m*n:1"), ("n:1 m:1", (), "n:1 m:1"), ("n m", (), "m*n"), ("-n:1 -m:n", (), "-m*n:1"),
                                  ("-n:1 m:n", (), "-n:1 m:n"), ("n:1 m k:n", (), "n:1 m k:n"), ("n:1 m k:n", ("m | 1",), "k*n:1"), ("n:k m:n*k", (), "m*n:k"),
                                  ("n:1 m:k", ("k = n",), "m*n:1"), ("n:1 m:k", ("k | n",), "n:1 m:k"), ("1:n n:1 1 -1:m", (), "n:1"), ("", (), ""),
                                  ("n:1 m:n k:m*n", (), "k*m*n:1"), ("n:1 m:n -k:m*n", (), "m*n:1 -k:m*n"), ("n k:1 m", ("k = 1",), "m*n"),
                                  ("n:m m:1", (), "n:m m:1"), ("n m n:1 m", (), "m*n n:1 m"), ("n:1 m:a*n", ("a = 1",), "m*n:1")):
            self.assertEqual(row(text).melted(facts(*given)), row(told), text)
        self.assertEqual(row("n m").melted(facts=()), row("m*n"))

    def test_places_stay(self):
        source = random.Random(39)
        for _ in range(150):
            parts = []
            factor = "1"
            for _ in range(source.randint(0, 5)):
                radix = source.choice(["n", "m", "k", "1"])
                parts.append(source.choice([radix, f"{radix}:{factor}", f"-{radix}:{factor}"]))
                factor = source.choice([factor, f"{factor}*{radix}", f"{factor}*{radix}"])
            made, given = row(" ".join(parts)), source.choice([(), ("k = n",), ("k = 1",)])
            melted = made.melted(facts(*given))
            always = Always(facts(*given))
            numbers = {"n": 2, "m": 3, "k": {(): 2, ("k = n",): 2, ("k = 1",): 1}[given]}
            for index in range(made.total.at(numbers)):
                self.assertEqual(made.place(index, numbers), melted.place(index, numbers))
            for digit in melted:
                self.assertFalse(always.is_one(digit.radix))
            for low, high in zip(melted.digits(), melted.digits()[1:]):
                self.assertFalse(low.WAY == high.WAY and (low.factor is None or always.equals(high.factor, low.factor * low.radix)))
            self.assertEqual(melted.melted(facts(*given)), melted)

    def test_facts(self):
        self.check(lambda given: row("n:1").melted(given))
        self.check(lambda given: row("n:1").cut_at(N, given))

    def check(self, call):
        for value in no_lists():
            with self.assertRaises(InvalidFacts) as caught:
                call(value)
            self.assertIsNone(caught.exception.position)
        with self.assertRaises(InvalidFacts) as caught:
            call([fact("n | m"), None])
        self.assertEqual(caught.exception.position, 1)
        call([fact("n | m")] * 12)
        for given, kind, limit in (([fact("n | m")] * 13, "facts", 12), ([fact("a*b*c*d | e*f*g*h*i")], "names", 8)):
            with self.assertRaises(TooMany) as caught:
                call(given)
            self.assertEqual((caught.exception.kind, caught.exception.limit), (kind, limit))


class TestCutting(unittest.TestCase):

    def test_by_hand(self):
        for text, cut, given, told in (("m*n:1", "m", (), "m:1 n:m"), ("m*n:1", "n", (), "n:1 m:n"), ("-m*n:k", "m", (), "-m:k -n:k*m"), ("m*n", "m", (), "m n"),
                                       ("n:1 m", "n", (), "n:1 m"), ("n:1 m", "1", (), "n:1 m"), ("n:1 m", "m*n", (), "n:1 m"), ("", "1", (), ""),
                                       ("n:1 m*k:a", "n*m", (), "n:1 m:a k:a*m"), ("n:1 m*k:a", "n*k", (), "n:1 k:a m:a*k"),
                                       ("n:1 m:a", "k", ("k = n",), "n:1 m:a"), ("n:1 m:a", "m", ("n | m",), "n:1 m*n^-1:a n:a*m*n^-1"),
                                       ("n:1 m:a", "m", ("m | n",), "m:1 n*m^-1:m m:a"), ("n^2:1 m^3:a", "n^2*m", (), "n^2:1 m:a m^2:a*m")):
            self.assertEqual(row(text).cut_at(size(cut), facts(*given)), row(told), text)
        self.assertEqual(row("m*n").cut_at(size=M, facts=()), row("m n"))

    def test_what_cannot_be_cut(self):
        for text, cut, given, barrier in (("n:1 m:a", "m", (), "n"), ("n:1 m:a", "k", ("k^2 | m", "k | n*m"), "n"), ("n:1 m:a k", "n*k", (), "n*m"),
                                          ("n:1 m -k:1", "n*k", (), "n*m"), ("n^2:1 m:a", "n*m", (), "n^2"), ("n^2:1 m:a", "n*m", ("m | n^2",), "n^2")):
            with self.assertRaises(CannotCut) as caught:
                row(text).cut_at(size(cut), facts(*given))
            self.assertEqual((caught.exception.cut, caught.exception.other), (size(cut), size(barrier)), text)

    def test_places_stay(self):
        numbers = {"n": 2, "m": 3, "k": 4, "a": 5}
        for text in ("n*m*k:a", "-m*n*k:1", "n:a m*k:1", "m*k n:a", "n:1 -m*k:n"):
            for cut in ("1", "n", "m", "n*m", "n*k", "m*k", "n*m*k"):
                made = row(text)
                try:
                    told = made.cut_at(size(cut), [])
                except CannotCut:
                    continue
                self.assertIn(size(cut), told.cuts())
                self.assertTrue(all(one in told.cuts() for one in made.cuts()))
                self.assertLessEqual(len(told), len(made) + 1)
                for index in range(24):
                    self.assertEqual(told.place(index, numbers), made.place(index, numbers))


if __name__ == "__main__":
    unittest.main()
