"""Whether answers about two programs are right, and lean answers."""

import itertools
import unittest

from anyshape.alike import Alike, Stopped, Unlike, alike
from anyshape.bitruns import parting_at
from anyshape.errors import InvalidAnswer
from anyshape.facts import Divides, Equals
from anyshape.follow import follows, why
from anyshape.goals import Both
from anyshape.memory import HasWord, InPlace
from anyshape.papers import is_answer, lean_answer
from anyshape.places import Crossed
from anyshape.shapes import Fails, Runs
from anyshape.sizes import Size
from sums import fact, facts, keeps, points_below, size
from test_alike import SUMMED, joint, known
from test_nodes import BOTH
from test_places import CROSSING
from test_shapes import Box, program
from values import odd_values
from variants import Rewriter

N, M, K, ONE = size("n"), size("m"), size("k"), Size()
X = {"x": "n m"}
FLAT = program(X, ("a", "permute", "x", (1, 0)))
SPLIT = program(X, ("b", "merge", "x", 0, 2), ("c", "split", "b", 0, (M, N)))


def reason(given, text):
    """The reason for the fact with this text."""
    told = fact(text)
    found = why(given, told)
    assert found is not None
    return told, found


class TestAlike(unittest.TestCase):

    def check(self, given, told, right=True):
        self.assertIs(is_answer(FLAT.knowing(*given), SPLIT, Alike(told)), right)
        self.assertIs(is_answer(FLAT, SPLIT.knowing(*given), Alike(told)), right)

    def test_reasons(self):
        given = facts("n | k", "k | 1", "m = k")
        self.check(given, [reason(given, "n | 1")])
        self.check(given, (reason(given, "n | 1"),))
        self.check(given, [reason(given, "n = 1")])
        self.check(given, [reason(given, "m | 1")])
        self.check(given, [reason(given, "n*m*k = 1"), reason(given, "n | k")])
        self.check(given, [reason(given, "n | k"), reason(given, "k | 1")])
        self.check(given, [reason(given, "m = k"), reason(given, "k | 1"), reason(given, "n | k")])
        self.check(given, [reason(given, "k | 1")], False)
        self.check(given, [reason(given, "n | k")], False)
        self.check(given, [], False)
        self.check(given, [reason(given, "n*k = 1")] * 12)
        self.check(given, [reason(given, "n*k = 1")] * 13, False)

    def test_whys(self):
        given = facts("n | k", "k | 1")
        right = reason(given, "n | 1")
        self.assertEqual(right[1], (1, (1, 1), {}))
        for bad in ((1, (1, 0), {}), (1, (0, 1), {}), (2, (1, 1), {}), (1, (1, 1), {"k": 1}), (1, (1, 1, 0), {}), (1, (1,), {}), (1, [1, 1], {}), (True, (1, 1), {}),
                    (1, (True, 1), {}), (1, (2, 2), {}), ((1, (1, 1), {}), (1, (1, 1), {})), None, (), (0, (0, 0), {}), (1, (1, 1)), (1, (1, 1), []), (1, (1, 1), {"n": -1})):
            self.check(given, [(right[0], bad)], False)
        for good in ((1, (1, 1), {"n": 0}), (2, (2, 2), {}), (3, (3, 3), {"zz": 0})):
            self.check(given, [(right[0], good)])
        self.check(given, [(Divides(M, N), (1, (1, 1), {}))], False)
        self.check(given, [(Equals(N, ONE), ((1, (1, 1), {}), (1, (0, 0), {"n": 1})))])
        self.check(given, [(Equals(N, ONE), ((1, (1, 1), {}), (1, (0, 0), {})))], False)

    def test_reasons_of_other_kinds(self):
        given = facts("n | 1")
        right = reason(given, "n | 1")
        for value in odd_values() + [0, 1, {}, "ab", [right, None], [[*right]], [right[:1]], [(*right, 0)], [(right[1], right[0])], [(None, right[1])], {right[1][0]: right},
                                     [("n | 1", right[1])], [(Box(), right[1])], [(Both(), ())], Box()]:
            self.check(given, value, False)

    def test_names_of_the_programs_alone(self):
        given = facts("n | 1")
        self.check(given, [(Divides(N, ONE), (1, (1,), {})), (Divides(ONE, size("q")), (1, (0,), {"q": 1}))], False)
        self.check(given, [(Divides(N, ONE), (1, (1,), {})), (Divides(ONE, M), (1, (0,), {"m": 1}))])
        given = facts("n | 1", "q | q*q")
        self.check(given, [(Divides(N, ONE), (1, (1, 0), {})), (Divides(ONE, size("q")), (1, (0, 0), {"q": 1}))])

    def test_the_same_inputs(self):
        one, other = program({"x": "n"}, given=("n | m", "m | n")), program({"x": "m"})
        first, second = reason(one.facts(), "n | m"), reason(one.facts(), "m | n")
        self.assertTrue(is_answer(one, other, Alike([first, second])))
        self.assertTrue(is_answer(one, other, Alike([reason(one.facts(), "n = m")])))
        self.assertFalse(is_answer(one, other, Alike([first])))
        self.assertFalse(is_answer(one, other, Alike([])))

    def test_the_same_inputs_though_no_cell_tells_them_apart(self):
        one, other = program({"x": "n"}, ("a", "pick", "x", 0), given=("n = m",)), program({"x": "m"}, ("a", "pick", "x", 0))
        told = reason(one.facts(), "n = m")
        self.assertEqual(alike(one, other), Alike([told]))
        self.assertTrue(is_answer(one, other, Alike([told])))
        self.assertFalse(is_answer(one, other, Alike([])))
        self.assertEqual(lean_answer(one, other, Alike([told, told])), Alike([told]))

    def test_programs_that_are_not_alike(self):
        other = program(X, ("a", "turn", "x", 0))
        self.assertFalse(is_answer(program(X), other, Alike([])))
        self.assertFalse(is_answer(program(X), program(X, ("a", "merge", "x", 0, 2)), Alike([])))
        crossed = program(X, *CROSSING)
        self.assertFalse(is_answer(crossed, crossed, Alike([])))
        fails = program(X, ("a", "drop", "x", 0))
        self.assertFalse(is_answer(fails, fails, Alike([])))
        self.assertTrue(is_answer(fails.knowing(Divides(N, ONE)), fails, Alike([(Divides(N, ONE), (1, (1,), {}))])))


class TestUnlike(unittest.TestCase):

    def test_points(self):
        one, other = program(X), program(X, ("a", "turn", "x", 0), ("b", "turn", "a", 1), ("c", "turn", "b", 1))
        for point in points_below("nmk", 3):
            self.assertIs(is_answer(one, other, Unlike(point, "place", ())), point["n"] > 0)
            self.assertIs(is_answer(one.knowing(Divides(N, M)), other, Unlike(point, "place", ())), 0 < point["n"] <= point["m"])
        far = {"n": 10 ** 50, "m": 10 ** 60, "zz": 3}
        self.assertTrue(is_answer(one, other, Unlike(far, "place", ())))
        for value in odd_values() + [[{"n": 1}], ({"n": 1},), {"n": True}, {"n": -1}, {"N": 1}, {"n": "1"}, Box()]:
            self.assertFalse(is_answer(one, other, Unlike(value, "place", ())))

    def test_ways(self):
        one, other = program({"x": "n m k"}), program({"x": "n m k"}, ("a", "permute", "x", (0, 2, 1)))
        point = {"n": 1, "m": 2, "k": 3}
        self.assertTrue(is_answer(one, other, Unlike(point, "axis", 1)))
        for what, where in (("axis", 0), ("axis", 2), ("axis", True), ("axis", None), ("axis", "1"), ("axes", 1), ("axes", None), ("place", ()), ("place", (1,)), (None, 1),
                            (1, "axis"), (Box(), Box()), ("axis", Box()), (Box(), 1), ("axis", (1,)), (["axis"], 1)):
            self.assertFalse(is_answer(one, other, Unlike(point, what, where)))
        self.assertTrue(is_answer(one, other, Unlike({"n": 1, "m": 2, "k": 2}, "place", ())))
        self.assertTrue(is_answer(one, program({"x": "n m k"}, ("a", "merge", "x", 0, 2)), Unlike({}, "axes", None)))
        for where in (0, False, (), Box(), ""):
            self.assertFalse(is_answer(one, program({"x": "n m k"}, ("a", "merge", "x", 0, 2)), Unlike({}, "axes", where)))

    def test_paths(self):
        lines = [("a", "cells", "f", ("x", "x")), ("b", "cells", "g", ("x", "a"))]
        one, other = program(X, *lines), program(X, ("t", "turn", "x", 0), ("a", "cells", "f", ("x", "t")), lines[1])
        self.assertTrue(is_answer(one, other, Unlike({"n": 1}, "place", (1, 1))))
        for where in ((), (1,), (1, 0), (0, 1), [1, 1], (1, True), (True, 1), (1, 1, 0), None, 1, ("1", "1"), Box(), (Box(), Box())):
            self.assertFalse(is_answer(one, other, Unlike({"n": 1}, "place", where)))
        self.assertFalse(is_answer(one, other, Unlike({"n": 1}, "node", (1, 1))))

    def test_all_points_against_the_partings(self):
        for seed in range(60):
            maker = Rewriter(seed)
            one = maker.program(4, facts=2)
            other = maker.mutant(one)
            if one.facts() != other.facts():
                continue
            for point in points_below(one.names(), 3):
                kept = all(keeps(point, one_fact) for one_fact in joint(one, other))
                parting = parting_at(one, other, point) if kept else None
                told = Unlike(point, *(parting or ("place", ())))
                self.assertIs(is_answer(one, other, told), parting is not None)

    def test_crossed_programs(self):
        one, other = program(X, *CROSSING), program(X, ("a", "permute", "x", (1, 0)))
        self.assertIsInstance(alike(one, other), Stopped)
        parting = parting_at(one, other, {"n": 1, "m": 2})
        self.assertEqual(parting, ("place", ()))
        self.assertTrue(is_answer(one, other, Unlike({"n": 1, "m": 2}, *parting)))
        self.assertFalse(is_answer(one, other, Unlike({"n": 1}, "place", ())))
        self.assertFalse(is_answer(one, other, Unlike({"n": 1, "m": 2}, "place", (0,))))

    def test_programs_that_fail(self):
        fails = program(X, ("a", "drop", "x", 0))
        self.assertFalse(is_answer(fails, program(X), Unlike({}, "axes", None)))
        self.assertFalse(is_answer(program(X), fails, Unlike({}, "axes", None)))
        self.assertTrue(is_answer(program(X, given=("n = 1",)), fails, Unlike({}, "axes", None)))


class TestStopped(unittest.TestCase):

    def test_fails(self):
        fails, good = program(X, ("b", "turn", "x", 0), ("a", "drop", "b", 1)), program(X)
        for one, other, which in ((fails, good, 0), (good, fails, 1), (fails, fails, 0)):
            self.assertTrue(is_answer(one, other, Stopped(which, Fails(1, 1, [{"m": 1}]))))
            self.assertTrue(is_answer(one, other, Stopped(which, Fails(1, 1, ({"m": 7, "n": 2, "zz": 0}, {})))))
            for told in (Stopped(1 - which, Fails(1, 1, [{"m": 1}])), Stopped(bool(which), Fails(1, 1, [{"m": 1}])), Stopped(which, Fails(0, 1, [{"m": 1}])),
                         Stopped(which, Fails(1, 0, [{"m": 1}])), Stopped(which, Fails(1, 1, [{"n": 1}])), Stopped(which, Fails(1, 1, [])), Stopped(which, Fails(True, 1, [{"m": 1}])),
                         Stopped(which, None), Stopped(which, Crossed(1, M, ONE)), Stopped(None, Fails(1, 1, [{"m": 1}])), Stopped(which, Box()), Stopped(Box(), Fails(1, 1, [{"m": 1}]))):
                self.assertFalse(is_answer(one, other, told))

    def test_fails_for_the_joint_facts(self):
        fails, good = program(X, ("a", "drop", "x", 1)), program(X, given=("n | m",))
        self.assertTrue(is_answer(fails, good, Stopped(0, Fails(0, 1, [{"m": 1}]))))
        self.assertTrue(is_answer(fails, good, Stopped(0, Fails(0, 1, [{"m": 1, "n": 1}]))))
        self.assertFalse(is_answer(fails, good, Stopped(0, Fails(0, 1, [{"m": 1, "n": 2}]))))
        self.assertFalse(is_answer(fails, good.knowing(Divides(M, N), Divides(N, ONE)), Stopped(0, Fails(0, 1, [{"m": 1}]))))

    def test_crossed(self):
        crossed, good = program(X, *CROSSING), program(X, ("a", "permute", "x", (1, 0)))
        for one, other, which in ((crossed, good, 0), (good, crossed, 1), (crossed, crossed, 0)):
            self.assertTrue(is_answer(one, other, Stopped(which, Crossed(3, M, N))))
            for told in (Stopped(1 - which, Crossed(3, M, N)), Stopped(which, Crossed(2, M, N)), Stopped(which, Crossed(3, N, N)), Stopped(which, Crossed(3, M, M)),
                         Stopped(which, Crossed(3, M * K, N)), Stopped(which, Crossed("3", M, N)), Stopped(which, Crossed(3, "m", N)), Stopped(which, Crossed(3, M, None)),
                         Stopped(which, Crossed(3, Box(), Box())), Stopped(which, Fails(3, 0, [])), Stopped(which, 3)):
                self.assertFalse(is_answer(one, other, told))
        known_more = crossed.knowing(Equals(M, K))
        self.assertTrue(is_answer(known_more, good, Stopped(0, Crossed(3, K, N))))
        self.assertTrue(is_answer(known_more, good, Stopped(0, Crossed(3, K * K * size("m^-1"), N))))
        self.assertFalse(is_answer(crossed, good, Stopped(0, Crossed(True, M, N))))
        words = program(BOTH, *SUMMED)
        self.assertTrue(is_answer(words, words, Stopped(0, Crossed(5, N, M))))
        self.assertFalse(is_answer(words, words, Stopped(1, Crossed(5, N, M))))

    def test_programs_that_are_not_stopped(self):
        one, other = program(X), program(X, ("a", "turn", "x", 0))
        for told in (Stopped(0, Fails(0, 0, [{"n": 1}])), Stopped(0, Crossed(0, N, M))):
            self.assertFalse(is_answer(one, one, told))
            self.assertFalse(is_answer(one, other, told))
        crossed = program(X, *CROSSING)
        self.assertFalse(is_answer(crossed, program(X), Stopped(0, Crossed(3, M, N))))

    def test_other_values(self):
        one = program(X)
        for value in odd_values() + [0, "yes", Runs(), Fails(0, 0, []), Crossed(0, N, M), InPlace(), HasWord(), Alike, [], ("yes", Alike([])), Box()]:
            self.assertIs(is_answer(one, one, value), False)
            self.assertIs(is_answer(program(X, *CROSSING), one, value), False)
            self.assertIs(is_answer(program(X, ("a", "drop", "x", 0)), one, value), False)


class TestLean(unittest.TestCase):

    def test_reasons_are_left_out_from_the_last_one_on(self):
        given = facts("n | k", "k | 1", "m | 1")
        one, other = FLAT.knowing(*given), SPLIT
        for texts, left in ((["n | 1"], ["n | 1"]), (["n | 1", "m | 1"], ["n | 1"]), (["m | 1", "n | 1"], ["m | 1"]), (["n | k", "k | 1", "m | 1"], ["n | k", "k | 1"]),
                            (["m | 1", "n | k", "k | 1"], ["m | 1"]), (["n | k", "m | 1", "k | 1"], ["m | 1"]), (["n | 1"] * 12, ["n | 1"]),
                            (["n | k", "n = 1", "k | 1"], ["n = 1"])):
            told = [reason(given, text) for text in texts]
            found = lean_answer(one, other, Alike(told))
            self.assertEqual([str(one_fact) for one_fact, _ in found.reasons], left)
            self.assertTrue(all(part in told for part in found.reasons))
            self.assertEqual(lean_answer(one=one, other=other, answer=Alike(tuple(told))), found)
            self.assertTrue(is_answer(one, other, found))
        self.assertEqual(lean_answer(FLAT, FLAT, Alike([reason([], "n | n")])), Alike([]))

    def test_answers_of_alike_are_lean(self):
        for seed in range(80):
            maker = Rewriter(seed)
            one = maker.program(4, facts=4)
            answer = alike(one, maker.rewritten(one))
            if isinstance(answer, Alike):
                self.assertEqual(lean_answer(one, one, answer), answer)
                every = Alike([(told, why(one.facts(), told)) for told in one.facts()])
                self.assertTrue(is_answer(one, one, every))
                found = lean_answer(one, one, every)
                for place in range(len(found.reasons)):
                    self.assertFalse(is_answer(one, one, Alike(found.reasons[:place] + found.reasons[place + 1:])))

    def test_no_right_alike(self):
        given = facts("n | 1")
        one = FLAT.knowing(*given)
        for value in odd_values() + [0, [], Alike, Alike([]), Alike(None), Alike([(Divides(N, ONE), (1, (2,), {}))]), Unlike({"n": 1}, "axis", 0), Stopped(0, None), Box(),
                                     Alike([reason(given, "n | 1")] * 13)]:
            with self.assertRaises(InvalidAnswer) as caught:
                lean_answer(one, SPLIT, value)
            self.assertIs(caught.exception.value, value)
        unlike = alike(FLAT, SPLIT)
        with self.assertRaises(InvalidAnswer) as caught:
            lean_answer(FLAT, SPLIT, unlike)
        self.assertIs(caught.exception.value, unlike)

    def test_facts_that_follow(self):
        """A fact is right as a reason just if it follows from the joint facts."""
        given = facts("n*m | k", "k = n")
        for one, other in itertools.product((N, M, K, ONE), repeat=2):
            told = Divides(one, other)
            self.assertIs(is_answer(FLAT.knowing(*given), FLAT, Alike([(told, why(given, told))])), follows(given, told))

    def test_what_was_passed_may_change(self):
        given = facts("n | 1")
        told = [reason(given, "n | 1")]
        found = lean_answer(FLAT.knowing(*given), SPLIT, Alike(told))
        told.clear()
        self.assertEqual(len(found.reasons), 1)
        self.assertEqual(known(FLAT, given).facts(), given)


if __name__ == "__main__":
    unittest.main()
