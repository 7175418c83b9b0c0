"""The judge: run certificates, questions, right answers."""

import itertools
import unittest

from anyshape.alike import Alike, Stopped, Unlike, alike
from anyshape.bitruns import parting_at
from anyshape.errors import InvalidProgram, InvalidQuestion, InvalidSizes, OtherInputs
from anyshape.facts import Divides, Equals
from anyshape.failures import DoesNotRun, TooMany, UnknownArray
from anyshape.follow import against, follows, why
from anyshape.goals import Both, Either
from anyshape.judge import answer_to, is_question, is_right, is_run_certificate, run_certificate
from anyshape.memory import Bent, HasWord, InPlace, Nest, NoNest, NotSingle, OtherSize, Overwritten, View, in_place, nest_of, view_of
from anyshape.most import Above, Covered, cover
from anyshape.papers import lean_answer
from anyshape.places import Crossed
from anyshape.programs import Program
from anyshape.shapes import Fails, Runs, is_fails, runs
from anyshape.sizes import Size
from makers import Maker, arrays_at
from sums import Chance, fact, facts, is_right_against, is_right_why, keeps, points_below, size
from test_alike import NO_PROGRAMS, SUMMED
from test_inplace import leaves_of
from test_nodes import BOTH, TWO_WAYS
from test_places import CROSSING
from test_shapes import Box, program
from test_views import MERGED
from values import odd_values
from variants import Rewriter

N, M, K, ONE = size("n"), size("m"), size("k"), Size()
X = {"x": "n m"}
PLAIN = program(X)
CROSSED = program(X, *CROSSING)
OTHERS = [None, 0, 1, True, "yes", "no", (), [], {}, ("yes",), ("no",), ("yes", None), ("no", None), ("yes", ()), ("no", []), ("yes", None, None), ["no", [{"n": 1}]], (True, None), (Box(), Box()),
          Runs(), Fails(0, 0, [{"n": 1}]), Alike([]), Unlike({"n": 1}, "place", ()), Stopped(0, Crossed(3, M, N)), Crossed(3, M, N), NotSingle(), Bent(0, {"n": 1}, 1), View("x", (), ()),
          HasWord(), NoNest(N, M, [{"n": 1}, {"m": 1}]), Nest((), ((),)), InPlace(), OtherSize({"n": 1}), Overwritten({"n": 1}, 0, None), Covered((1,), (1, (), {})), Above({"n": 1}), Box()]


class TestCertificates(unittest.TestCase):

    def check(self, made, told):
        self.assertEqual(run_certificate(made), told)
        self.assertTrue(is_run_certificate(made, told))
        self.assertTrue(is_run_certificate(program=made, value=tuple(told)))

    def test_conditions(self):
        same = ((1, (), {}), (1, (), {}))
        self.check(PLAIN, [])
        self.check(program(X, ("a", "turn", "x", 0), ("b", "merge", "a", 0, 2), ("c", "sum", "b", (0,))), [])
        self.check(program({"x": "n 1"}, ("a", "drop", "x", 1), ("b", "split", "a", 0, (ONE, N))), [same, same])
        self.check(program(X, ("a", "cells", "f", ("x", "x"))), [(0, same), (0, same)])
        self.check(program({"x": "n m", "y": "m", "z": "1 k"}, ("a", "cells", "f", ("y", "z", "x")), given=("k | 1",)),
                   [(2, ((1, (1,), {}), (1, (0,), {"k": 1}))), (0, ((1, (0,), {}),) * 2), (1, ((1, (0,), {}),) * 2)])

    def test_the_sequence_of_facts(self):
        """A split tells its product first, a drop its size."""
        made = program({"x": "n"}, ("a", "split", "x", 0, (M, K)), given=("m*k | n", "n | k*m"))
        self.check(made, [((1, (1, 0), {}), (1, (0, 1), {}))])
        self.assertFalse(is_run_certificate(made, [((1, (0, 1), {}), (1, (1, 0), {}))]))
        made = program({"x": "n"}, ("a", "drop", "x", 0), given=("n | 1", "m | n"))
        self.check(made, [((1, (1, 0), {}), (1, (0, 0), {"n": 1}))])
        self.assertFalse(is_run_certificate(made, [((1, (0, 0), {"n": 1}), (1, (1, 0), {}))]))
        made = program({"x": "n", "y": "m"}, ("a", "cells", "f", ("x", "y")), given=("n | m", "m | n"))
        self.check(made, [(0, ((1, (1, 0), {}), (1, (0, 1), {})))])
        self.assertFalse(is_run_certificate(made, [(0, ((1, (0, 1), {}), (1, (1, 0), {})))]))

    def test_ways_choose_the_sizes(self):
        """What a pair is joined to is what its way says; later conditions are about that size."""
        made = program({"x": "n", "y": "m"}, ("a", "cells", "f", ("x", "y")), ("b", "cells", "f", ("a", "x")), given=("n = 1", "m = 1"))
        one, other = ((1, (1, 0), {}), (1, (-1, 0), {})), ((1, (0, 1), {}), (1, (0, -1), {}))
        none = ((1, (0, 0), {}),) * 2
        self.assertTrue(is_run_certificate(made, [(1, one), (1, other)]))
        self.assertTrue(is_run_certificate(made, [(1, one), (2, one)]))
        self.assertTrue(is_run_certificate(made, [(2, other), (0, none)]))
        self.assertTrue(is_run_certificate(made, [(2, other), (1, one)]))
        self.assertTrue(is_run_certificate(made, [(0, ((1, (1, -1), {}), (1, (-1, 1), {}))), (0, none)]))
        self.assertFalse(is_run_certificate(made, [(1, one), (0, none)]))
        self.assertFalse(is_run_certificate(made, [(1, other), (0, none)]))
        self.assertFalse(is_run_certificate(made, [(2, one), (0, none)]))

    def test_axes_without_a_pair(self):
        """An added axis has the size of the array that has it, also where it always is 1."""
        made = program({"x": "n", "y": "k n", "z": "k n"}, ("a", "cells", "f", ("x", "y", "z")), given=("k | 1",))
        none = ((1, (0,), {}),) * 2
        self.check(made, [(0, none), (0, none), (0, none)])
        made = program({"x": "n", "y": "k n"}, ("a", "cells", "f", ("x", "y")), ("b", "split", "a", 0, (K,)), given=("k | 1",))
        self.check(made, [(0, none), none])
        self.assertTrue(is_run_certificate(made, [(0, none), none]))
        made = program({"x": "n", "y": "k n"}, ("a", "cells", "f", ("y", "x")), ("b", "split", "a", 0, (K,)), given=("k | 1",))
        self.check(made, [(0, none), none])

    def test_programs_that_do_not_run(self):
        for made in (program(X, ("a", "drop", "x", 0)), program(X, ("a", "split", "x", 0, (M,)), given=("n | m",)), program({"x": "n", "y": "m"}, ("a", "cells", "f", ("x", "y")))):
            self.assertIsNone(run_certificate(made))
            for value in [[], [None], [((1, (), {}), (1, (), {}))], [(0, ((1, (), {}), (1, (), {})))], [(0, ((1, (1,), {}), (1, (0,), {})))]]:
                self.assertFalse(is_run_certificate(made, value))

    def test_changed_ones(self):
        made = program({"x": "n m", "y": "m", "z": "1 k"}, ("a", "cells", "f", ("y", "z", "x")), ("b", "split", "a", 0, (N, ONE)), ("c", "drop", "b", 1), given=("k | 1", "m = k*m"))
        right = run_certificate(made)
        self.assertTrue(is_run_certificate(made, right))
        self.assertEqual(len(right), 5)
        for value in (right[1:], right[:-1], right + right[:1], right + [None], right[::-1], [None] + right, {}, None, 0, "x", Box(), [Box()] * 5, iter(right)):
            self.assertIs(is_run_certificate(made, value), False)
        for at, one in enumerate(right):
            way, reason = one if at < 3 else (None, one)
            changed = [(reason[1], reason[0])] if reason[0] != reason[1] and way is None else []
            for side, (scale, weights, rest) in enumerate(reason):
                for part in ((0, weights, rest), (True, weights, rest), (scale, list(weights), rest), (scale, weights[:1], rest), (scale, (weights[0] + 1, *weights[1:]), rest),
                             (scale, (weights[0] - 1, *weights[1:]), rest), (scale, weights, {**rest, "q": 1}), (scale, weights, {**rest, "n": -1}), None, (scale, weights), Box()):
                    changed.append((part, reason[1]) if side == 0 else (reason[0], part))
            changed += [None, list(reason), reason[:1], reason + reason[:1], Box(), ()]
            for told in changed:
                told = told if way is None else (way, told)
                self.assertIs(is_run_certificate(made, [*right[:at], told, *right[at + 1:]]), False, (at, told))
            if way is not None:
                for told in ((3, reason), (-1, reason), (bool(way), reason), (None, reason), [way, reason], (way, reason, 0), (way,), reason, (str(way), reason)):
                    self.assertIs(is_run_certificate(made, [*right[:at], told, *right[at + 1:]]), False, (at, told))

    def test_random_ones(self):
        found = {True: 0, False: 0}
        for seed in range(250):
            made = Maker(seed).program(7, facts=3, always=seed % 2 == 0)
            told = run_certificate(made)
            found[told is not None] += 1
            self.assertEqual(told is not None, runs(made) == Runs())
            self.assertEqual(run_certificate(made), told)
            if told:
                self.assertTrue(is_run_certificate(made, told))
                told.pop()
                self.assertFalse(is_run_certificate(made, told))
                self.assertTrue(is_run_certificate(made, run_certificate(made)))
        self.assertGreater(min(found.values()), 30)

    def test_no_programs(self):
        for value in NO_PROGRAMS:
            for function in (run_certificate, lambda made: is_run_certificate(made, None), lambda made: is_run_certificate(program=made, value=[])):
                with self.assertRaises(InvalidProgram) as caught:
                    function(value)
                self.assertIs(caught.exception.value, value)


def questions():
    """Right questions, one or more of each kind."""
    return [("follows", facts("n | m"), fact("n | m*k")), ("follows", (), Both()), ("follows", [], Either()), ("runs", PLAIN), ("runs", program(X, ("a", "drop", "x", 0))), ("alike", PLAIN, PLAIN),
            ("view", PLAIN, None), ("view", PLAIN, "x"), ("nest", CROSSED, None), ("nest", CROSSED, "v"), ("in place", PLAIN, "x", None), ("in place", CROSSED, "x", "y"), ("cover", N, [M, K], facts("n | m")),
            ("cover", N, (M,), ()), ("cover", ONE, [ONE], [])]


class TestQuestions(unittest.TestCase):

    def test_right_ones(self):
        for question in questions() + [("view", PLAIN, "w"), ("in place", PLAIN, "zz", "y"), ("cover", N, [], []), ("follows", facts("n | m") * 20, Both()), ("cover", N, [M] * 40, facts("n | m") * 20)]:
            self.assertIs(is_question(question), True)
            self.assertIs(is_question(value=question), True)

    def test_parts_of_other_kinds(self):
        for question in questions():
            bad = [question[1:], question + (None,), question[:-1], list(question), (question,), (question[0].upper(),) + question[1:], (None,) + question[1:], ("none",) + question[1:],
                   (["follows"],) + question[1:], ({},) + question[1:], (Box(),) + question[1:]]
            for at in range(1, len(question)):
                for value in odd_values() + [0, 1, "n | m", "X", "abcdefghi", {}, {"n": 1}, (None,), [None], [3], ["n"], [fact("n | m"), "n"], [N, size("n^-1")], size("n^-1"), [Both()], facts("n | m")[0].one.over(M),
                                             Box(), [Box()]]:
                    if value is None and question[at] in (None, "x", "y", "v") and at == len(question) - 1:
                        continue
                    bad.append((*question[:at], value, *question[at + 1:]))
            for value in bad:
                self.assertIs(is_question(value), False, value)
        for question in questions():
            self.assertTrue(is_question(question))
        for value in odd_values() + [0, (), [], {}, "runs", ("runs",), ("runs", PLAIN, None), ("view", PLAIN), ("in place", PLAIN, None, None), ("in place", PLAIN, "x"), ("cover", N, [M]), ("follows", Both(), []),
                                     ("alike", PLAIN), ("alike", PLAIN, None), ("nest", None, None), ("view", PLAIN, 0), ("view", PLAIN, ""), ("memory", PLAIN, None), ("inplace", PLAIN, "x", None), Box()]:
            self.assertIs(is_question(value), False)
            for function in (answer_to, lambda asked: is_right(asked, None), lambda asked: is_right(question=asked, value=0)):
                with self.assertRaises(InvalidQuestion) as caught:
                    function(value)
                self.assertIs(caught.exception.value, value)

    def test_errors_of_the_functions_that_answer(self):
        fails = program(X, ("a", "drop", "x", 0))
        nine = [size(name) for name in "abcdefghi"]
        for question, kind, parts in (
                (("follows", facts("n | m") * 13, Both()), TooMany, {"kind": "facts", "limit": 12}), (("follows", facts("a*b*c*d | e*f*g*h"), fact("a | i")), TooMany, {"kind": "names", "limit": 8}),
                (("alike", PLAIN, program({"x": "n"})), OtherInputs, {"position": 0}), (("alike", PLAIN, program({"y": "a b c d", "z": "e f g"})), TooMany, {"kind": "names", "limit": 8}),
                (("view", fails, "w"), UnknownArray, {"name": "w"}), (("view", fails, "x"), DoesNotRun, {"line": 0}), (("nest", fails, "w"), UnknownArray, {"name": "w"}),
                (("nest", fails, None), DoesNotRun, {"line": 0}), (("in place", fails, "w", "v"), UnknownArray, {"name": "w"}), (("in place", fails, "a", None), UnknownArray, {"name": "a"}),
                (("in place", fails, "x", "w"), UnknownArray, {"name": "w"}), (("in place", fails, "x", None), DoesNotRun, {"line": 0}), (("cover", N, [], []), InvalidSizes, {"position": None}),
                (("cover", N, [M] * 28, facts("n | m") * 13), TooMany, {"kind": "facts", "limit": 12}), (("cover", N, nine * 4, []), TooMany, {"kind": "sizes", "limit": 27}),
                (("cover", N, nine, []), TooMany, {"kind": "names", "limit": 8})):
            self.assertTrue(is_question(question))
            for function in [answer_to] + [lambda asked, told=told: is_right(asked, told) for told in OTHERS]:
                with self.assertRaises(kind) as caught:
                    function(question)
                self.assertEqual(vars(caught.exception), parts)
        self.assertEqual(answer_to(("runs", fails)), ("no", Fails(0, 0, [{"n": 1}])))


class TestRight(unittest.TestCase):

    def check(self, question, right=(), wrong=()):
        answer = answer_to(question)
        self.assertTrue(is_right(question, answer))
        self.assertEqual(answer_to(question=question), answer)
        for value in right:
            self.assertIs(is_right(question, value), True, value)
            self.assertIs(is_right(question=question, value=value), True)
        for value in wrong:
            self.assertIs(is_right(question, value), False, value)
        for value in OTHERS:
            if not any(value.__class__ is other.__class__ for other in [answer, *right] if not isinstance(other, tuple)) and not isinstance(value, tuple):
                self.assertIs(is_right(question, value), False, value)
        return answer

    def test_follows(self):
        given = facts("n | m", "m | k")
        question = ("follows", given, fact("n | k"))
        answer = self.check(question, [("yes", (2, (2, 2), {"n": 0}))], [("no", (1, (1, 1), {})), ("yes", (1, (1, 0), {})), ("yes", [1, (1, 1), {}]), ("yes", [{"n": 1}]), ("no", [{"n": 1, "m": 1, "k": 1}]), ("no", []),
                                                                        ["yes", (1, (1, 1), {})], ("yes", (1, (1, 1), {}), 0), ("Yes", (1, (1, 1), {})), (True, (1, (1, 1), {})), (1, (1, (1, 1), {})), (Box(), (1, (1, 1), {}))])
        self.assertEqual(answer, ("yes", (1, (1, 1), {})))
        question = ("follows", given, fact("k | n"))
        self.check(question, [("no", [{"k": 3, "n": 0, "zz": 5}]), ("no", [{}, {"k": 1}, {"m": 1, "k": 1}]), ("no", ({"k": 1},))], [("maybe", [{"k": 1}]), ("", [{"k": 1}]), (None, [{"k": 1}]), (False, [{"k": 1}]), (Box(), [{"k": 1}]), ("no", [{}]), ("no", []), ("no", [{"m": 1}]), ("no", [{"k": 1}, {"n": 1}]),
                                                                                                                                ("yes", [{"k": 1}]), ("no", {"k": 1}), ("yes", (1, (0, 0), {})), ("no", [{"k": True}])])
        self.check(("follows", [], Either()), [("no", []), ("no", [{"q": 1}])], [("yes", ()), ("yes", (0, ()))])
        self.check(("follows", [], Both()), [("yes", ())], [("no", []), ("yes", []), ("yes", (1, (), {}))])
        for seed in range(120):
            chance = Chance(seed, "nmk")
            given, goal = chance.facts(3), chance.goal(2)
            told = answer_to(("follows", given, goal))
            self.assertEqual(told[0] == "yes", follows(given, goal))
            self.assertTrue((is_right_why if told[0] == "yes" else is_right_against)(given, goal, told[1]))
            self.assertTrue(is_right(("follows", given, goal), told))
            self.assertEqual(is_right(("follows", given, goal), ("yes", why(given, goal))), told[0] == "yes")
            self.assertEqual(is_right(("follows", given, goal), ("no", against(given, goal, full=True))), told[0] == "no")

    def test_runs(self):
        made = program({"x": "n 1"}, ("a", "drop", "x", 1), given=("n | m",))
        none = (1, (0,), {})
        answer = self.check(("runs", made), [("yes", ((none, none),)), ("yes", [((3, (0,), {}), none)])], [("yes", []), ("yes", [none]), ("no", [(none, none)]), ("yes", [(none, none)] * 2), ("no", Fails(0, 1, [{"n": 1}])), ("yes", Runs()),
                                                                                          Runs(), ("yes", None), [("yes", [(none, none)])]])
        self.assertEqual(answer, ("yes", [(none, none)]))
        made = program(X, ("a", "drop", "x", 1), given=("n | m",))
        answer = self.check(("runs", made), [("no", Fails(0, 1, [{"n": 2, "m": 2, "q": 0}, {}])), ("no", Fails(0, 1, ({"m": 1},)))], [("no", Fails(0, 1, [{"n": 1}])), ("no", Fails(0, 0, [{"m": 1}])), ("yes", Fails(0, 1, [{"m": 1}])), ("maybe", Fails(0, 1, [{"m": 1}])), (None, Fails(0, 1, [{"m": 1}])),
                            Fails(0, 1, [{"m": 1}]), ("no", [{"m": 1}]), ("no", Fails(0, 1, [])), ("yes", []), ("no", Fails(False, 1, [{"m": 1}]))])
        self.assertTrue(is_fails(made, answer[1]))

    def test_alike(self):
        flat, split = program(X, ("a", "permute", "x", (1, 0)), given=("n | 1", "m | m*n")), program(X, ("b", "merge", "x", 0, 2), ("c", "split", "b", 0, (M, N)))
        lean = (Divides(N, ONE), (1, (1, 0), {}))
        answer = self.check(("alike", flat, split), [Alike([lean, (Divides(M, N * M), (1, (0, 1), {}))]), Alike((lean,)), Alike([lean] * 12), Alike([(Equals(N, ONE), ((1, (1, 0), {}), (1, (0, 0), {"n": 1})))])],
                            [Alike([]), Alike([lean] * 13), ("yes", Alike([lean])), Unlike({"m": 1}, "place", ()), Alike([(Divides(N, ONE), (1, (0, 1), {}))])])
        self.assertEqual(answer, Alike([lean]))
        self.assertEqual(lean_answer(flat, split, answer), answer)
        turned = program(X, ("a", "turn", "x", 0))
        self.check(("alike", PLAIN, turned), [Unlike({"n": 1}, "place", ()), Unlike({"n": 7, "m": 3, "q": 1, "k": 0}, "place", ())], [Unlike({"m": 1}, "place", ()), Unlike({"n": 1}, "node", ()), Alike([]), Stopped(0, Crossed(0, N, M)),
                                                                                                       Unlike([{"n": 1}], "place", ())])
        fails = program(X, ("a", "drop", "x", 0))
        self.check(("alike", PLAIN, fails), [Stopped(1, Fails(0, 0, [{"n": 1}])), Stopped(1, Fails(0, 0, [{"m": 1}, {"n": 5, "m": 0}]))], [Stopped(0, Fails(0, 0, [{"n": 1}])), Stopped(1, Fails(0, 0, [{"m": 1}])), Fails(0, 0, [{"n": 1}]),
                                                                                                                                  Unlike({}, "axes", None)])

    def test_alike_of_crossed_programs(self):
        other = program(X, ("a", "permute", "x", (1, 0)))
        question = ("alike", CROSSED, other)
        self.check(question, [Stopped(0, Crossed(3, M, N)), Unlike({"n": 1, "m": 2}, "place", ())], [Stopped(1, Crossed(3, M, N)), Stopped(0, Crossed(3, N, M)), Crossed(3, M, N), Unlike({"n": 1}, "place", ()), Alike([])])
        seen = 0
        for point in points_below("nm", 4):
            parting = parting_at(CROSSED, other, point)
            if parting is not None:
                self.assertTrue(is_right(question, Unlike(point, *parting)))
                seen += 1
        self.assertGreater(seen, 3)
        words = program(BOTH, *SUMMED)
        self.check(("alike", words, words), [Stopped(0, Crossed(5, N, M))], [Stopped(0, Crossed(5, M, N)), Alike([])])

    def test_view(self):
        view = View("x", ((1, M), (1, ONE)), ())
        self.check(("view", PLAIN, None), [view, View("x", ((1, M), (1, ONE)), ((K, K),))], [View("x", ((1, N), (1, ONE)), ()), NotSingle(), Bent(0, {"n": 1, "m": 1}, 1), Crossed(0, N, M)])
        self.check(("view", CROSSED, None), [Crossed(3, M, N)], [Crossed(2, M, N), Crossed(3, M, M), Crossed(3, N, N), Crossed(True, M, N), view, NotSingle()])
        self.check(("view", CROSSED, "x"), [view], [Crossed(3, M, N)])
        self.check(("view", program(X, ("a", "cells", "f", ("x",))), "a"), [NotSingle()], [view, Crossed(3, M, N), Bent(0, {"n": 1, "m": 1}, 1), NotSingle])
        self.check(("view", program(X, ("s", "sum", "x", (0,))), None), [NotSingle()])
        made = program(X, *MERGED)
        self.check(("view", made, None), [Bent(0, {"n": 1, "m": 1}, 1), Bent(0, {"n": 5, "m": 1, "q": 3, "k": 0}, 5), Bent(0, {"n": 2, "m": 3}, 4), Bent(0, {"n": 2, "m": 3}, 2)],
                   [Bent(0, {"n": 1, "m": 1}, 2), Bent(0, {"n": 1, "m": 1}, 0), Bent(0, {"n": 2, "m": 3}, 1), Bent(0, {"n": 2, "m": 3}, 5), Bent(0, {"n": 1}, 0), Bent(0, {"n": 2}, 1), Bent(1, {"n": 1, "m": 1}, 1), Bent(False, {"n": 1, "m": 1}, 1),
                    Bent(0, {"n": 1, "m": 1}, True), Bent(0, [{"n": 1, "m": 1}], 1), Bent(0, {"n": 1, "m": True}, 1), Bent(-1, {"n": 1, "m": 1}, 1), Bent(0, {"n": 1, "m": 1}, -1), Bent(None, None, None), Bent(Box(), {"n": 1, "m": 1}, Box()),
                    View("x", ((1, ONE),), ()), NotSingle()])
        known = made.knowing(*facts("n | m"))
        self.check(("view", known, "b"), [Bent(0, {"n": 1, "m": 1}, 1)], [Bent(0, {"n": 2, "m": 1}, 2)])

    def test_bent_at_all_points(self):
        for made in (program(X, *MERGED), program(X, ("a", "turn", "x", 0), ("b", "merge", "a", 0, 2)), program({"x": "n"}, ("a", "spread", "x", 1, M), ("b", "merge", "a", 0, 2)),
                     program({"x": "n m k"}, ("a", "permute", "x", (0, 2, 1)), ("b", "merge", "a", 1, 2)), program({"x": "n"}, ("a", "spread", "x", 0, M), ("b", "merge", "a", 0, 2))):
            self.assertIsInstance(view_of(made), Bent)
            for point in points_below(made.names(), 3):
                shape, cells = arrays_at(made, {name: 2 ** count for name, count in point.items()})[0][made.result]
                for axis, bit in itertools.product(range(3), range(5)):
                    bent = axis < len(shape) and 2 ** bit < shape[axis]
                    if bent:
                        numbers = [cells[tuple(index if at == axis else 0 for at in range(len(shape)))][2] for index in (0, 1, 2 ** bit)]
                        bent = numbers[2] != numbers[0] + 2 ** bit * (numbers[1] - numbers[0])
                    self.assertIs(is_right(("view", made, None), Bent(axis, point, bit)), bent)

    def test_nest(self):
        nest = Nest(((N * M, ((1, ONE),)),), ((),))
        self.check(("nest", PLAIN, None), [nest, Nest(((N, ((1, M),)), (M, ((1, ONE),))), ((),))], [Nest(((M, ((1, M),)), (N, ((1, ONE),))), ((),)), HasWord(), NoNest(N, M, [{"n": 1}, {"m": 1}]), Crossed(0, N, M)])
        self.check(("nest", CROSSED, None), [Crossed(3, M, N)], [Crossed(2, M, N), nest, HasWord()])
        self.check(("nest", program(X, ("s", "sum", "x", (0,))), None), [HasWord()], [nest, NotSingle(), HasWord])
        made = program(BOTH, *TWO_WAYS)
        pair = [{"n": 1}, {"m": 1}]
        self.check(("nest", made, "e"), [NoNest(N, M, pair), NoNest(M, N, pair), NoNest(N, M, pair * 3 + [{"n": 1, "m": 1}, {"q": 4}]), NoNest(N, M, ({"n": 2, "m": 1, "k": 0}, {"m": 1}))],
                   [NoNest(N, M, [{"n": 1}]), NoNest(N, M, [{"n": 1}, {"n": 1, "m": 1}]), NoNest(N, M, []), NoNest(N, N, pair), NoNest(N, K, pair), NoNest(N, M * K, pair), NoNest(N, N * M, pair), NoNest("n", "m", pair), NoNest("n", M, pair), NoNest(N, "m", pair), NoNest(N, None, pair),
                    NoNest(N, M, {"n": 1}), NoNest(N, M, [{"n": 1}, {"m": True}]), NoNest(N, M, None), NoNest(None, None, pair), NoNest(Box(), Box(), pair), NoNest(N, M, Box()), nest_of(made.knowing(*facts("n | m"))), HasWord()])
        known = made.knowing(*facts("n*n | q*m"))
        self.check(("nest", known, None), [NoNest(N, M, [{"m": 1}, {"n": 1, "q": 2}])], [NoNest(N, M, pair)])
        known = made.knowing(*facts("m = k"))
        self.check(("nest", known, None), [NoNest(N, K, [{"n": 1}, {"m": 1, "k": 1}]), NoNest(size("k^2*m^-1"), N, [{"n": 1}, {"m": 1, "k": 1}])], [NoNest(N, K, [{"n": 1}, {"k": 1}])])

    def test_in_place(self):
        self.check(("in place", PLAIN, "x", None), [InPlace()], [OtherSize({"n": 1}), Overwritten({"n": 1}, 0, None), HasWord(), Crossed(3, M, N), InPlace])
        self.check(("in place", CROSSED, "x", None), [Crossed(3, M, N)], [Crossed(3, N, M), InPlace(), HasWord()])
        self.check(("in place", program(X, ("s", "sum", "x", (0,))), "x", "s"), [HasWord()], [OtherSize({"n": 1}), InPlace()])
        made = program(X, ("a", "spread", "x", 0, K), given=("k | n",))
        self.check(("in place", made, "x", None), [OtherSize({"n": 1, "k": 1}), OtherSize({"n": 4, "k": 2, "q": 9, "m": 0})], [OtherSize({"k": 1}), OtherSize({"n": 1}), OtherSize({}), OtherSize(None), OtherSize([{"n": 1, "k": 1}]), InPlace(),
                                                                                                                             OtherSize({"n": 1, "k": True})])
        made = program(X, ("a", "turn", "x", 0), ("b", "cells", "f", ("x", "a")))
        self.check(("in place", made, "x", None), [Overwritten({"n": 1}, 1, None), Overwritten({"n": 2, "m": 1, "q": 1}, 1, 0), Overwritten({"n": 1}, 1, 0), Overwritten({"n": 1, "m": 1}, 1, 1), Overwritten({"n": 1, "m": 1}, 1, 0)],
                   [Overwritten({"n": 1}, 0, None), Overwritten({"n": 1}, 2, None), Overwritten({"n": 1}, -1, None), Overwritten({"n": 1}, True, None), Overwritten({"m": 1}, 1, None), Overwritten({"n": 1}, 1, 1), Overwritten({"n": 1}, 1, -1),
                    Overwritten({"n": 1}, 1, False), Overwritten({"n": 1}, 1, "0"), Overwritten({"n": 1}, None, None), Overwritten(None, 1, None), Overwritten([{"n": 1}], 1, None), Overwritten({"n": 1}, 1, Box()), Overwritten({"n": 1}, Box(), None),
                    InPlace(), OtherSize({"n": 1})])

    def test_overwritten_at_all_points(self):
        x = {"x": "n m", "y": "n m"}
        for lines in ([("a", "turn", "x", 0)], [("a", "permute", "x", (1, 0))], [("a", "permute", "x", (1, 0)), ("b", "cells", "f", ("a",))], [("p", "pick", "x", 0), ("a", "spread", "p", 1, N)],
                      [("t", "turn", "x", 1), ("a", "cells", "f", ("y", "t"))], [("p", "pick", "x", 0), ("a", "spread", "p", 0, N), ("b", "cells", "f", ("a", "x", "y"))],
                      [("t", "turn", "x", 1), ("u", "turn", "y", 0), ("a", "cells", "f", ("u", "t", "y"))]):
            made = program(x, *lines)
            self.assertIsInstance(in_place(made, "x"), Overwritten)
            for point in points_below("nm", 3):
                cells = list(arrays_at(made, {name: 2 ** count for name, count in point.items()})[0][made.result][1].values())
                for leaf, bit in itertools.product(range(3), (None, 0, 1, 2, 3, 4)):
                    number = 0 if bit is None else 2 ** bit
                    right = number < len(cells) and leaf < made.leaf_count()
                    if right:
                        read = leaves_of(cells[number])[leaf]
                        right = read[0] == "x" and read[1] != number and cells[read[1]] != ("in", "x", read[1])
                    self.assertIs(is_right(("in place", made, "x", None), Overwritten(point, leaf, bit)), right)

    def test_cover(self):
        question = ("cover", N * M, [N * N, M * M], [])
        self.check(question, [Covered((1, 1), (1, (), {})), Covered((3, 3), (2, (), {}))], [Covered((1, 0), (1, (), {})), Above({"n": 1}), Above({}), Covered([1, 1], (1, (), {}))])
        question = ("cover", N, (M, K), facts("m | n"))
        self.check(question, [Above({"n": 1}), Above({"n": 3, "m": 2, "k": 0, "zz": 5})], [Above({"m": 1}), Above({"n": 1, "m": 1}), Above({"n": 1, "k": 1}), Above({"n": 1, "m": 2}), Above(None), Above([{"n": 1}]), Above({"n": True}), Above({}),
                                                                                          Covered((1, 0), (1, (1,), {})), Covered((0, 0), (1, (0,), {}))])
        self.assertEqual(answer_to(question), cover(N, [M, K], facts("m | n")))

    def test_answers_of_one_column_only(self):
        """Answers to questions by a random source; no answer to another question of the other column is right."""
        given = {}
        for seed in range(60):
            maker = Rewriter(seed)
            made = maker.program(5, facts=2)
            source = made.inputs()[0][0]
            for question in (("view", made, None), ("nest", made, None), ("in place", made, source, None), ("runs", made), ("alike", made, maker.rewritten(made)), ("alike", made, maker.mutant(made)),
                             ("cover", maker.size(2), [maker.size(2), maker.size(2)], made.facts())):
                answer = answer_to(question)
                self.assertTrue(is_right(question, answer))
                given.setdefault(question[0], []).append((question, answer))
        for kind in given:
            for (question, answer), (_, other) in itertools.product(given[kind][:40], repeat=2):
                if is_right(question, other) and kind != "runs":
                    self.assertEqual(answer.is_yes, other.is_yes)

    def test_what_is_told_is_new(self):
        question = ("follows", facts("n | m"), fact("m | n"))
        answer_to(question)[1].clear()
        self.assertTrue(is_right(question, answer_to(question)))
        answer_to(("runs", program(X, ("a", "drop", "x", 0))))[1].points.clear()
        self.assertTrue(is_right(("runs", program(X, ("a", "drop", "x", 0))), answer_to(("runs", program(X, ("a", "drop", "x", 0))))))
        self.assertTrue(all(keeps(point, told) for told in facts("n | m") for point in answer_to(question)[1]))
        self.assertIsInstance(alike(PLAIN, PLAIN), Alike)
        self.assertIsInstance(PLAIN, Program)


if __name__ == "__main__":
    unittest.main()
