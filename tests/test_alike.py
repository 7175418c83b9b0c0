"""Whether programs are alike."""

import itertools
import unittest

from anyshape.alike import Alike, Stopped, Unlike, alike, telling_point
from anyshape.bitruns import parting_at
from anyshape.errors import InvalidProgram, OtherInputs
from anyshape.facts import Divides
from anyshape.failures import TooMany
from anyshape.follow import is_why
from anyshape.papers import is_answer
from anyshape.places import Crossed
from anyshape.programs import Program
from anyshape.shapes import Answer, Fails, is_fails
from anyshape.sizes import Size
from makers import arrays_at, numbers_below
from sums import facts, holds_at, keeps, points_below, size
from test_nodes import BOTH, TWO_WAYS
from test_places import CROSSING
from test_shapes import Box, program
from values import odd_values
from variants import Rewriter

N, M, K, ONE = size("n"), size("m"), size("k"), Size()
SUMMED = TWO_WAYS + [("s", "sum", "e", (0,))]
NO_PROGRAMS = odd_values() + [0, 1, "x", [], {}, (1, 2), [("x", ())], Box()]


def joint(one, other):
    """The joint facts of two programs."""
    found = one.facts()
    return found + [fact for at, fact in enumerate(other.facts()) if fact not in found + other.facts()[:at]]


def known(made, given):
    """The program with these facts in place of its own."""
    return Program(made.inputs(), made.lines(), given)


def result_at(made, numbers):
    """The shape and the cells of the result."""
    return arrays_at(made, numbers)[0][made.result]


class TestAnswers(unittest.TestCase):

    def test_classes(self):
        reasons = [(Divides(N, M), (1, (1,), {}))]
        for made, text, is_yes in ((Alike([]), "Alike([])", True), (Unlike({"n": 1}, "bits", (0,)), "Unlike({'n': 1}, 'bits', (0,))", False),
                                   (Stopped(1, Fails(0, 1, [{"n": 1}])), "Stopped(1, Fails(0, 1, [{'n': 1}]))", False),
                                   (Stopped(0, Crossed(3, N, M)), "Stopped(0, Crossed(3, Size('n'), Size('m')))", False),
                                   (Alike(reasons), "Alike([(Divides(Size('n'), Size('m')), (1, (1,), {}))])", True)):
            self.assertEqual((repr(made), made.is_yes, made.__class__.__bases__), (text, is_yes, (Answer,)))
            with self.assertRaises(AttributeError):
                made.is_yes = not is_yes
        made = Unlike(point={"n": 1}, what="axis", where=2)
        self.assertEqual((made.point, made.what, made.where), ({"n": 1}, "axis", 2))
        made = Stopped(which=0, answer=Fails(1, 2, []))
        self.assertEqual((made.which, made.answer, Alike(reasons=reasons).reasons), (0, Fails(1, 2, []), reasons))

    def test_equality(self):
        made = [Alike([]), Alike([(Divides(N, M), (1, (1,), {}))]), Unlike({}, "axis", 1), Unlike({}, "axis", 2), Unlike({"n": 1}, "axis", 1),
                Unlike({}, "axes", 1), Stopped(0, Fails(0, 0, [])), Stopped(1, Fails(0, 0, [])), Stopped(0, Crossed(0, 0, [])), None, 0, []]
        for (place, one), (other_place, other) in itertools.product(enumerate(made), repeat=2):
            self.assertEqual(one == other, place == other_place)

    def test_any_values(self):
        for value in odd_values() + [{}, [[]]]:
            for made, other in ((Alike(value), Alike(value)), (Unlike(value, [value], {"a": value}), Unlike(value, [value], {"a": value})),
                                (Stopped(value, (value,)), Stopped(value, (value,)))):
                self.assertEqual(made, other)

    def test_what_was_passed_may_change(self):
        points, point, reasons = [{"n": 1}], {"n": 1}, [(Divides(N, M), (1, (1,), {"n": 2}))]
        fails = Fails(0, 0, points)
        made = [Alike(reasons), Unlike(point, "axis", [point]), Stopped([point], fails)]
        for one in (points, reasons):
            one.append(0)
        point["n"] = 3
        reasons[0][1][2]["n"] = 5
        fails.points.append({})
        self.assertEqual(made, [Alike([(Divides(N, M), (1, (1,), {"n": 2}))]), Unlike({"n": 1}, "axis", [{"n": 1}]), Stopped([{"n": 1}], Fails(0, 0, [{"n": 1}]))])


class TestSequence(unittest.TestCase):

    def check(self, one, other, told):
        answer = alike(one, other)
        self.assertEqual(answer, told)
        self.assertTrue(is_answer(one, other, answer))
        self.assertEqual(alike(one=one, other=other), answer)
        tell = telling_point(one, other)
        self.assertEqual(tell is None, isinstance(told, Stopped))

    def check_unlike(self, one, other, what, where):
        answer = alike(one, other)
        self.assertEqual((answer.__class__, answer.what, answer.where), (Unlike, what, where))
        given = joint(one, other)
        self.assertEqual(parting_at(known(one, given), known(other, given), answer.point), (what, where))
        self.assertTrue(is_answer(one, other, answer))
        for told in (answer.point, telling_point(one, other)):
            self.assertTrue(all(keeps(told, fact) for fact in given))
            self.assertEqual(list(told), sorted(told))
            self.assertTrue(all(count > 0 for count in told.values()))
            self.assertIsNotNone(parting_at(known(one, given), known(other, given), told))
        numbers = {name: 2 ** answer.point.get(name, 0) for name in set(one.names() + other.names())}
        self.assertNotEqual(result_at(one, numbers), result_at(other, numbers))

    def test_programs_that_fail(self):
        good = program({"x": "n m"}, ("a", "turn", "x", 0))
        bad = good.extended(("b", "drop", "a", 1))
        worse = good.extended(("b", "split", "a", 1, (K, K)))
        self.check(bad, good, Stopped(0, Fails(1, 1, [{"m": 1}])))
        self.check(good, bad, Stopped(1, Fails(1, 1, [{"m": 1}])))
        answer = alike(bad, worse)
        self.assertEqual((answer.which, answer.answer.line), (0, 1))
        self.assertTrue(is_fails(bad, answer.answer))
        self.check(bad, good.knowing(*facts("m = 1")), alike(good.knowing(*facts("m = 1")), good.extended(("b", "drop", "a", 1))))
        crossed = program({"x": "n m"}, *CROSSING)
        answer = alike(crossed, bad)
        self.assertEqual((answer.which, answer.answer.__class__), (1, Fails))

    def test_a_fact_of_the_other_program_lets_one_run(self):
        one = program({"x": "n m"}, ("a", "drop", "x", 1))
        other = program({"x": "n m"}, ("a", "pick", "x", 1), given=("m | 1",))
        answer = alike(one, other)
        self.assertEqual([fact for fact, _ in answer.reasons], facts("m | 1"))
        self.assertEqual(alike(other, one), answer)

    def test_axes(self):
        one = program({"x": "n m"})
        self.check_unlike(one, program({"x": "n m"}, ("a", "merge", "x", 0, 2)), "axes", None)
        self.check_unlike(one, program({"x": "n m"}, ("a", "permute", "x", (1, 0))), "axis", 0)
        self.check_unlike(one, program({"x": "n m"}, ("a", "permute", "x", (1, 0)), given=("n | m",)), "axis", 0)
        self.check_unlike(one, program({"x": "n m"}, ("a", "permute", "x", (1, 0)), given=("n = m",)), "place", ())
        self.check_unlike(one, program({"x": "n m"}, ("a", "spread", "x", 2, K), ("b", "pick", "a", 1)), "axis", 1)

    def test_axes_come_ahead_of_what_is_crossed(self):
        crossed = program({"x": "n m"}, *CROSSING)
        self.check_unlike(crossed, program({"x": "n m"}, ("a", "merge", "x", 0, 2)), "axes", None)
        self.check_unlike(crossed, program({"x": "n m"}), "axis", 0)
        self.check_unlike(program({"x": "n m"}, given=("n | m",)), crossed, "axis", 0)

    def test_crossed(self):
        crossed = program({"x": "n m"}, *CROSSING)
        same = program({"x": "n m"}, ("a", "permute", "x", (1, 0)))
        self.check(crossed, same, Stopped(0, Crossed(3, M, N)))
        self.check(same, crossed, Stopped(1, Crossed(3, M, N)))
        self.check(crossed, crossed, Stopped(0, Crossed(3, M, N)))
        words = program(BOTH, *SUMMED)
        good = program(BOTH, ("s", "sum", "x", (0, 1)))
        self.check(words, good, Stopped(0, Crossed(5, N, M)))
        self.check(good, words, Stopped(1, Crossed(5, N, M)))
        early = program(BOTH, *SUMMED, ("o", "permute", "x", (1, 0)), ("p", "merge", "o", 0, 2), ("q", "split", "p", 0, (N, M)), ("r", "permute", "q", (1, 0)), ("t", "cells", "g", ("r", "s")))
        self.check(early, program(BOTH, ("a", "permute", "x", (1, 0))), Stopped(0, Crossed(9, M, N)))
        self.assertEqual(alike(words.knowing(*facts("n | m")), good).__class__, Unlike)

    def test_alike(self):
        x = {"x": "n m"}
        one = program(x, ("s", "sum", "x", (0, 1)))
        self.check(one, program(x, ("y", "permute", "x", (1, 0)), ("z", "turn", "y", 1), ("s", "sum", "z", (0, 1))), Alike([]))
        self.check(one, one, Alike([]))
        self.check(program(x), program(x, ("a", "turn", "x", 0), ("b", "turn", "a", 0)), Alike([]))
        self.check(program({"x": ""}), program({"x": ""}), Alike([]))
        self.check(program({"x": "n", "y": "m"}), program({"x": "n", "y": "m"}, ("a", "spread", "y", 0, N), ("b", "pick", "a", 0)), Alike([]))
        one = program(x, ("a", "spread", "x", 0, K), ("s", "sum", "a", (0,)), ("b", "spread", "s", 0, N), ("t", "sum", "b", (0,)))
        self.check(one, program(x, ("a", "spread", "x", 2, K * N), ("s", "sum", "a", (2,))), Alike([]))

    def test_letters_mean_anything(self):
        x = {"x": "n m"}
        f, g = [("a", "cells", "f", ("x", "x"))], [("a", "cells", "g", ("x", "x"))]
        self.check_unlike(program(x, *f), program(x, *g), "node", ())
        self.check_unlike(program(x, *f), program(x, ("t", "turn", "x", 0), ("a", "cells", "f", ("t", "x"))), "place", (0,))
        self.check_unlike(program(x, ("s", "sum", "x", (0,))), program(x, ("s", "greatest", "x", (0,))), "node", ())
        self.check_unlike(program(x, ("s", "least", "x", (0,))), program(x, ("s", "pick", "x", 0)), "node", ())
        one = program(x, ("a", "spread", "x", 0, K), ("s", "sum", "a", (0,)))
        self.check_unlike(one, program(x), "node", ())
        self.check_unlike(one, program(x, ("a", "spread", "x", 0, K * K), ("s", "sum", "a", (0,))), "count", ())
        self.check_unlike(program(x, *f, ("s", "sum", "a", (0, 1))), program(x, ("t", "turn", "x", 1), ("a", "cells", "f", ("t", "x")), ("s", "sum", "a", (0, 1))), "bits", ())
        self.check_unlike(program(x, ("s", "sum", "x", (0,)), ("p", "spread", "s", 1, ONE)), program(x, ("s", "sum", "x", (1,)), ("p", "spread", "s", 0, ONE)), "axis", 0)

    def test_facts_as_reasons(self):
        x = {"x": "n m"}
        one = program(x, ("a", "permute", "x", (1, 0)))
        for given in (("n | 1",), ("m = 1",), ("n*m | k", "k | m")):
            other = program(x, ("b", "merge", "x", 0, 2), ("c", "split", "b", 0, (M, N)), given=given)
            self.check(one, other, alike(other, one.knowing(*facts(*given))))
            answer = alike(one, other)
            self.assertEqual([fact for fact, _ in answer.reasons], facts(*given))
            self.assertTrue(all(is_why(facts(*given), fact, why) for fact, why in answer.reasons))
        extra = program(x, *one.lines(), given=("k | n", "n | 1", "m | k", "1 | m", "n = 1"))
        other = program(x, ("b", "merge", "x", 0, 2), ("c", "split", "b", 0, (M, N)))
        answer = alike(extra, other)
        self.assertEqual(len(answer.reasons), 1)
        self.assertTrue(is_why(extra.facts(), *answer.reasons[0]))
        both = alike(one.knowing(*facts("n | k")), other.knowing(*facts("n | k", "k | 1", "n | k")))
        self.assertEqual([fact for fact, _ in both.reasons], facts("n | k", "k | 1"))
        self.assertEqual(both.reasons[0][1], (1, (1, 0), {}))

    def test_a_crossed_program_with_the_fact_that_it_wants(self):
        one, other = program({"x": "n m"}, *CROSSING), program({"x": "n m"}, ("a", "permute", "x", (1, 0)), given=("n = m",))
        answer = alike(one, other)
        self.assertEqual(answer.__class__, Unlike)
        one = program({"x": "n m"}, *CROSSING, ("o", "permute", "w", (1, 0)), ("p", "merge", "o", 0, 2))
        other = program({"x": "n m"}, ("a", "permute", "x", (1, 0)), ("b", "merge", "a", 0, 2), given=("m | n", "m | k"))
        answer = alike(one, other)
        self.assertEqual(answer, Alike([(facts("m | n")[0], (1, (1, 0), {}))]))
        self.assertEqual(alike(known(one, ()), known(other, ())), Stopped(0, Crossed(3, M, N)))

    def test_new_lists(self):
        one, other = program({"x": "n m"}), program({"x": "n m"}, ("a", "permute", "x", (1, 0)), ("b", "permute", "a", (1, 0)), given=("n = m",))
        unlike = alike(one, other.only("a").knowing())
        unlike.point.clear()
        self.assertNotEqual(alike(one, other.only("a")).point, {})
        answer = alike(one, other)
        answer.reasons.append(1)
        self.assertEqual(alike(one, other), Alike([]))
        telling_point(one, other.only("a")).clear()
        self.assertNotEqual(telling_point(one, other.only("a")), {})


class TestErrors(unittest.TestCase):

    def functions(self):
        return [alike, telling_point, lambda one, other: is_answer(one, other, Alike([])), lambda one, other: is_answer(one=one, other=other, value=None)]

    def test_no_programs(self):
        good = program({"x": "n"})
        for function, value in itertools.product(self.functions(), NO_PROGRAMS):
            for pair in ((value, good), (good, value), (value, 0)):
                with self.assertRaises(InvalidProgram) as caught:
                    function(*pair)
                self.assertIs(caught.exception.value, value)

    def test_too_many(self):
        many = facts(*[f"n | {'m*' * at}m" for at in range(1, 9)])
        more = facts(*[f"m | {'k*' * at}k" for at in range(1, 7)])
        one, other = program({"x": "n"}).knowing(*many), program({"y": "n q"}).knowing(*many[:3], *more[:5], *many[2:4])
        for function in self.functions():
            with self.assertRaises(TooMany) as caught:
                function(one, other)
            self.assertEqual((caught.exception.kind, caught.exception.limit), ("facts", 12))
            with self.assertRaises(OtherInputs):
                function(one, program({"y": "n q"}).knowing(*many[:3], *more[:4], *many[2:4]))
        twelve = program({"x": "n"}).knowing(*many[:7], *more[:1], *more[2:6])
        self.assertEqual(alike(program({"x": "n"}).knowing(*many[:4]), twelve), Alike([]))
        seven = program({"x": "a b c d"}), program({"x": "e f g"})
        for function in self.functions():
            with self.assertRaises(TooMany) as caught:
                function(program({"x": "a b c d", "y": "e"}), program({"y": "f g h i"}))
            self.assertEqual((caught.exception.kind, caught.exception.limit), ("names", 8))
            with self.assertRaises(OtherInputs):
                function(*seven)
        eight = program({"x": "a b c d"}), program({"x": "a b c d"}, ("y", "spread", "x", 0, size("e*f*g*h")), ("z", "pick", "y", 0))
        self.assertEqual(alike(*eight), Alike([]))
        with self.assertRaises(TooMany) as caught:
            alike(program({"x": "a b c d"}, given=[f"i | {'a*' * at}a" for at in range(9)]), program({"x": "e f g h"}, given=[f"a | {'e*' * at}e" for at in range(4)]))
        self.assertEqual(caught.exception.kind, "facts")

    def test_other_inputs(self):
        x, y = {"x": "n m"}, {"x": "n m", "y": "k"}
        for one, other, position in ((x, y, 1), (x, {"y": "n m"}, 0), (x, {"x": "n"}, 0), (x, {"x": "n k"}, 0), (y, {"y": "k", "x": "n m"}, 0), (y, {"x": "n m", "y": "n"}, 1),
                                     (y, {"x": "n m", "z": "k"}, 1), ({"x": "n", "y": "m", "z": "k"}, {"x": "n", "y": "m"}, 2), (x, {"x": "m n"}, 0), (x, {"x": "n m 1"}, 0)):
            for pair in ((one, other), (other, one)):
                for function in self.functions():
                    with self.assertRaises(OtherInputs) as caught:
                        function(*map(program, pair))
                    self.assertEqual(caught.exception.position, position)

    def test_inputs_that_are_equal_for_the_joint_facts(self):
        one, other = program({"x": "n m"}), program({"x": "m n"}, given=("n = m",))
        answer = alike(one, other)
        self.assertEqual(answer.reasons, [(facts("n = m")[0], ((1, (1,), {}), (1, (-1,), {})))])
        self.assertEqual(alike(program({"x": "n"}, given=("n | m",)), program({"x": "m"}, given=("m | n",))).reasons,
                         [(facts("n | m")[0], (1, (1, 0), {})), (facts("m | n")[0], (1, (0, 1), {}))])
        with self.assertRaises(OtherInputs) as caught:
            alike(program({"x": "n", "y": "k m"}, given=("n | m",)), program({"x": "n", "y": "k n"}))
        self.assertEqual(caught.exception.position, 1)

    def test_inputs_are_looked_at_ahead_of_lines(self):
        with self.assertRaises(OtherInputs):
            alike(program({"x": "n"}, ("a", "drop", "x", 0)), program({"x": "m"}))


class TestCells(unittest.TestCase):
    """Answers about programs by a random source against arrays made cell by cell."""

    def pairs(self):
        for seed in range(400):
            maker = Rewriter(seed, "nmk" if seed % 2 else "nm")
            one = maker.program(maker.source.randint(1, 6), facts=3, most_leaves=4)
            other = maker.mutant(one) if seed % 3 == 2 else maker.rewritten(one)
            if seed % 4 == 1:
                other = maker.mutant(other)
            if seed % 5 == 0:
                cut = maker.source.randint(0, len(one.facts()))
                one, other = known(one, one.facts()[:cut]), known(other, other.facts()[cut:])
            yield one, other

    def test_answers(self):
        seen = {"Alike": 0, "Unlike": 0}
        for one, other in self.pairs():
            try:
                answer = alike(one, other)
            except OtherInputs:
                continue
            given = joint(one, other)
            first, second = known(one, given), known(other, given)
            self.assertTrue(is_answer(one, other, answer))
            tell = telling_point(one, other)
            if isinstance(answer, Stopped):
                self.assertIsNone(tell)
                continue
            seen[answer.__class__.__name__] += 1
            names = sorted(set(first.names() + second.names()))
            points = [point for point in points_below(names, 3) if all(keeps(point, fact) for fact in given)]
            parting = [point for point in points if parting_at(first, second, point) is not None]
            if parting:
                self.assertIsInstance(answer, Unlike)
            self.assertEqual(isinstance(answer, Unlike), parting_at(first, second, tell) is not None)
            if isinstance(answer, Unlike):
                self.assertEqual(parting_at(first, second, answer.point), (answer.what, answer.where))
                numbers = {name: 2 ** answer.point.get(name, 0) for name in names}
                self.assertTrue(all(holds_at(fact, numbers) for fact in given))
                if max(numbers.values(), default=1) < 9:
                    self.assertNotEqual(result_at(first, numbers), result_at(second, numbers))
                continue
            for numbers in numbers_below(names, 4):
                if all(holds_at(fact, numbers) for fact in given):
                    self.assertEqual(result_at(first, numbers), result_at(second, numbers))
            self.assert_lean(one, other, answer)
        self.assertGreater(seen["Alike"], 150)
        self.assertGreater(seen["Unlike"], 70)

    def assert_lean(self, one, other, answer):
        for place in range(len(answer.reasons)):
            self.assertFalse(is_answer(one, other, Alike(answer.reasons[:place] + answer.reasons[place + 1:])))

    def test_each_program_is_alike_to_itself(self):
        for one, _ in itertools.islice(self.pairs(), 60):
            self.assertIsInstance(alike(one, Program(one.inputs(), one.lines())), (Alike, Stopped))


if __name__ == "__main__":
    unittest.main()
