"""Trees of arrays, their leaves, and what crosses them."""

import itertools
import unittest

from anyshape.errors import InvalidIndex, InvalidNumbers
from anyshape.facts import Divides
from anyshape.failures import BrokenFact, CannotCut, DoesNotRun, IsCrossed, TooMany, UnknownArray
from anyshape.follow import Always
from anyshape.places import Crossed, Leaf, crossing, leaves, term_at, tree_of
from anyshape.programs import Program
from anyshape.rows import Row, Turned, Unused
from anyshape.runner import Runner
from anyshape.shapes import shape
from anyshape.sizes import Size
from makers import Maker, arrays_at, kept_numbers, sized_axes, word
from sums import size
from test_rows import row
from test_shapes import NO_ARRAYS, program, sizes
from values import no_dicts, odd_values

N, M, K, ONE = size("n"), size("m"), size("k"), Size()
CROSSING = [("y", "permute", "x", (1, 0)), ("z", "merge", "y", 0, 2), ("v", "split", "z", 0, (N, M)), ("w", "permute", "v", (1, 0))]


def told(leaf):
    """The parts of a leaf."""
    return leaf.source, leaf.row, leaf.tops, leaf.bound


def only_leaf(made, name=None):
    """The parts of the single leaf of an array."""
    found = list(leaves(made, name))
    assert len(found) == 1
    return told(found[0])


class TestTable(unittest.TestCase):

    def check(self, made, text, tops=(), bound=(), source="x"):
        pairs = [tuple(sizes(pair)) for pair in tops]
        self.assertEqual(only_leaf(made), (source, row(text), pairs, [row(one) for one in bound]))

    def test_inputs(self):
        self.check(program({"x": "n m k"}), "k*m*n:1")
        self.check(program({"x": "n m k"}, given=("n*m = m", "k | 1")), "k*m*n:1")
        self.check(program({"x": ""}), "")
        self.check(program({"x": "n 1"}, given=("n = 1",)), "")
        self.check(program({"x": "n", "y": "m"}), "m:1", source="y")

    def test_merge_split_drop(self):
        self.check(program({"x": "n*k m 1"}, ("a", "merge", "x", 0, 2), ("b", "split", "a", 0, (K, M, N)), ("c", "drop", "b", 3)), "k*m*n:1")

    def test_permute(self):
        for order, text in (((0, 1, 2), "k*m*n:1"), ((1, 0, 2), "k:1 n:k*m m:k"), ((0, 2, 1), "m:k k:1 n:m*k"), ((1, 2, 0), "n:k*m k*m:1"),
                            ((2, 0, 1), "m*n:k k:1"), ((2, 1, 0), "n:k*m m:k k:1")):
            self.check(program({"x": "n m k"}, ("a", "permute", "x", order)), text)
        self.check(program({"x": "n 1 m k"}, ("a", "permute", "x", (1, 3, 0, 2))), "m*n:k k:1")
        self.check(program({"x": "n q m k"}, ("a", "permute", "x", (1, 0, 3, 2)), given=("q = 1",)), "m:k k:1 n*q:k*m")
        self.check(program({"x": "n m k"}, ("a", "permute", "x", (1, 0, 2)), ("b", "permute", "a", (1, 0, 2))), "k*m*n:1")
        self.check(program({"x": "n 1"}, ("a", "permute", "x", (1, 0))), "n:1")

    def test_turn(self):
        for axis, text in ((0, "m*k:1 -n:m*k"), (1, "k:1 -m:k n:k*m"), (2, "-k:1 m*n:k")):
            self.check(program({"x": "n m k"}, ("a", "turn", "x", axis)), text)
        made = program({"x": "n m k"}, ("a", "turn", "x", 1), ("b", "turn", "a", 2))
        self.check(made, "-m*k:1 n:k*m")
        self.check(made.extended(("c", "merge", "b", 1, 2), ("d", "turn", "c", 1)), "n*m*k:1")
        self.check(made.extended(("c", "spread", "b", 1, N), ("d", "turn", "c", 1)), "-m*k:1 n n:k*m")
        self.check(program({"x": "n 1"}, ("a", "turn", "x", 1)), "n:1")

    def test_pick(self):
        for axis, text in ((0, "m*k:1"), (1, "k:1 n:k*m"), (2, "m*n:k")):
            self.check(program({"x": "n m k"}, ("a", "pick", "x", axis)), text)
            tops = ["m*k n*m*k", "k k*m", "1 k"][axis]
            self.check(program({"x": "n m k"}, ("a", "turn", "x", axis), ("b", "pick", "a", axis)), text, [tops])
        made = program({"x": "n m k"}, ("a", "turn", "x", 0), ("b", "turn", "a", 2), ("c", "pick", "b", 0))
        self.check(made, "-k:1 m:k", ["m*k n*m*k"])
        self.check(made.extended(("d", "pick", "c", 1)), "m:k", ["1 k", "m*k n*m*k"])
        self.check(made.extended(("d", "pick", "c", 1), ("e", "turn", "d", 0), ("f", "pick", "e", 0)), "", ["1 n*m*k"])
        self.check(made.extended(("d", "turn", "c", 0), ("e", "pick", "d", 0)), "-k:1", ["k n*m*k"])
        self.check(made.extended(("d", "spread", "c", 0, N), ("e", "pick", "d", 0)), "-k:1 m:k", ["m*k n*m*k"])
        self.check(program({"x": "n 1"}, ("a", "turn", "x", 1), ("b", "pick", "a", 1)), "n:1")

    def test_spread(self):
        for at, text in ((0, "n*m:1 k"), (1, "m:1 k n:m"), (2, "k n*m:1")):
            self.check(program({"x": "n m"}, ("a", "spread", "x", at, K)), text)
        self.check(program({"x": "n m"}, ("a", "spread", "x", 1, K), ("b", "spread", "a", 1, N)), "m:1 k*n n:m")
        self.check(program({"x": "n m"}, ("a", "spread", "x", 1, K), given=("k | 1",)), "n*m:1")
        self.check(program({"x": ""}, ("a", "spread", "x", 0, K)), "k")

    def test_cells(self):
        made = program({"x": "n m", "y": "1 m", "z": "k 1 1"}, ("a", "cells", "f", ("x", "y", "z")))
        found = [(leaf.source, leaf.row, leaf.tops, leaf.bound) for leaf in leaves(made)]
        self.assertEqual(found, [("x", row("n*m:1 k"), [], []), ("y", row("m:1 n*k"), [], []), ("z", row("m*n k:1"), [], [])])
        self.assertEqual(tree_of(made), ("let", "f", tuple(("in", leaf) for leaf in leaves(made))))
        made = program({"x": "n 1 m 1", "y": "k 1 q"}, ("a", "cells", "f", ("x", "y", "x")))
        self.assertEqual([leaf.row for leaf in leaves(made)], [row(text) for text in ("q m:1 k n:m", "q:1 m k:q n", "q m:1 k n:m")])
        made = program({"x": "n m", "y": "q"}, ("a", "cells", "f", ("x", "y")), ("b", "cells", "g", ("a",)), given=("q = 1",))
        self.assertEqual([leaf.row for leaf in leaves(made)], [row("m*n:1"), row("m*n")])
        self.assertEqual(tree_of(made)[:2], ("let", "g"))
        made = program({"x": "n m"}, ("a", "cells", "f", ("x",)), ("b", "permute", "a", (1, 0)), ("c", "cells", "f", ("x", "a")))
        self.assertEqual([leaf.row for leaf in leaves(made, "b")], [row("n:m m:1")])

    def test_words(self):
        for axes, text, bound in (((0,), "m*k:1", ["n:m*k"]), ((1,), "k:1 n:m*k", ["m:k"]), ((2,), "n*m:k", ["k:1"]), ((0, 1), "k:1", ["n*m:k"]),
                                  ((0, 2), "m:k", ["n:m*k", "k:1"]), ((0, 1, 2), "", ["n*m*k:1"])):
            made = program({"x": "n m k"}, ("a", "sum", "x", axes))
            self.check(made, text, (), bound)
            tree = tree_of(made)
            for one in bound:
                self.assertEqual(tree[:2], ("sum", row(one).total))
                tree = tree[2]
            self.assertEqual(tree, ("in", list(leaves(made))[0]))
        made = program({"x": "n m k"}, ("a", "turn", "x", 1), ("b", "sum", "a", (1,)), ("c", "greatest", "b", (0,)), ("d", "sum", "c", (0,)))
        self.check(made, "", (), ["k:1", "n:m*k", "-m:k"])
        self.assertEqual([tree_of(made)[0], tree_of(made)[2][:2], tree_of(made)[2][2][:2]], ["sum", ("greatest", N), ("sum", M)])
        self.check(program({"x": "n 1 m"}, ("a", "least", "x", (0, 1, 2))), "", (), ["n*m:1"])
        self.check(program({"x": "n q m"}, ("a", "least", "x", (0, 2)), given=("q = 1",)), "", (), ["n*q*m:1"])
        made = program({"x": "n q m"}, ("a", "least", "x", (1,)), given=("q = 1",))
        self.assertEqual(tree_of(made)[0], "in")
        made = program({"x": "n m"}, ("a", "spread", "x", 1, K), ("b", "sum", "a", (0, 1)))
        self.check(made, "m:1", (), ["k n:m"])

    def test_a_word_over_several_leaves(self):
        made = program({"x": "n m", "y": "m"}, ("a", "cells", "f", ("x", "y")), ("b", "sum", "a", (0,)), ("c", "cells", "g", ("b", "x")))
        self.assertEqual([told(leaf) for leaf in leaves(made)],
                         [("x", row("m:1 n"), [], [row("n:m")]), ("y", row("m:1 n"), [], [row("n")]), ("x", row("n*m:1"), [], [])])
        tree = tree_of(made)
        self.assertEqual((tree[:2], tree[2][0][:2], tree[2][0][2][:2]), (("let", "g"), ("sum", N), ("let", "f")))


class TestLeaves(unittest.TestCase):

    def setUp(self):
        self.made = program({"x": "n m k"}, ("a", "turn", "x", 0), ("b", "pick", "a", 0), ("c", "sum", "b", (0,)), ("d", "spread", "c", 0, N))

    def test_places(self):
        leaf = list(leaves(self.made))[0]
        numbers = {"n": 2, "m": 3, "k": 4, "zz": 1}
        for index, at in itertools.product(range(8), range(3)):
            self.assertEqual(leaf.place(index, numbers, [at]), 12 + 4 * at + index % 4)
            self.assertEqual(leaf.place(index=index, numbers=numbers, inner=(at,)), 12 + 4 * at + index % 4)
        self.assertEqual(list(leaves(self.made, "b"))[0].place(5, numbers), 17)

    def test_parts_do_not_change(self):
        leaf = list(leaves(self.made))[0]
        leaf.tops.clear()
        leaf.bound.clear()
        self.assertEqual(told(leaf), ("x", row("k:1 n"), [(M * K, N * M * K)], [row("m:k")]))
        for name in ("source", "row", "tops", "bound"):
            with self.assertRaises(AttributeError):
                setattr(leaf, name, None)

    def test_equality(self):
        self.assertEqual(list(leaves(self.made)), list(leaves(self.made)))
        self.assertIsInstance(list(leaves(self.made))[0], Leaf)
        found = [list(leaves(made))[0] for made in (self.made, self.made.only("c"), self.made.only("b"), program({"x": "n m k"}), program({"y": "n m k"}),
                                                    program({"x": "m*k"}, ("a", "sum", "x", (0,))))]
        found = found + [Leaf("x", [Unused(N)], [], []), Leaf("x", [Unused(N)], [(N, M)], []), Leaf("x", [Unused(N)], [], [[Unused(N)]]),
                         Leaf("x", [Unused(M)], [], []), Leaf("y", [Unused(N)], [], []), None]
        for one, other in itertools.permutations(found, 2):
            self.assertFalse(one == other)
        self.assertFalse(found[0] == told(found[0]))

    def test_steps_follow_one_another(self):
        for seed in range(80):
            made = Maker(seed).program(8)
            if crossing(made) is not None:
                continue
            always = Always(made.facts())
            for leaf in leaves(made):
                steps = [(digit.factor, digit.factor * digit.radix) for one in [leaf.row, *leaf.bound] for digit in one if digit.factor is not None]
                self.assertTrue(self.is_chain(always, steps + leaf.tops))
                self.assertTrue(all(always.divides(low[1], high[0]) and not always.equals(low[1], high[0]) for low, high in zip(leaf.tops, leaf.tops[1:])))
                self.assertFalse(any(always.equals(*top) for top in leaf.tops))
                for one in [leaf.row, *leaf.bound]:
                    self.assertEqual(one.melted(made.facts()), one)
                self.assertTrue(always.equals(leaf.row.total, Size.product(*shape(made))))

    def is_chain(self, always, steps):
        """Whether the steps can be put in a sequence in which the end of each divides the beginning of the next."""
        left = list(steps)
        while left:
            first = [step for step in left if all(step is other or always.divides(step[1], other[0]) for other in left)]
            if not first:
                return False
            left = [step for step in left if step is not first[0]]
        return True


class TestCrossing(unittest.TestCase):

    def test_the_example_of_the_document(self):
        made = program({"x": "n m"}, *CROSSING)
        self.assertEqual([only_leaf(made, name)[1] for name in "xyzv"], [row("m*n:1"), row("n:m m:1"), row("n:m m:1"), row("n:m m:1")])
        self.assertEqual(crossing(made), Crossed(3, M, N))
        self.assertEqual([crossing(made, name) for name in "xyzv"], [None] * 4)
        known = made.knowing(Divides(N, M))
        self.assertIsNone(crossing(known))
        self.assertEqual(only_leaf(known)[1], row("n^2:n^-1*m n^-1*m:1"))

    def test_told_and_raised(self):
        made = program({"x": "n m"}, *CROSSING, ("o", "turn", "y", 0), ("p", "cells", "f", ("o", "w")), ("q", "sum", "p", (0,)))
        for name in ("w", "p", "q", None):
            self.assertEqual(crossing(made, name), Crossed(3, M, N))
            for call in (lambda: tree_of(made, name), lambda: list(leaves(made, name)), lambda: term_at(made, {"n": 2, "m": 2}, None, name)):
                with self.assertRaises(IsCrossed) as caught:
                    call()
                self.assertEqual((caught.exception.line, caught.exception.cut, caught.exception.other), (3, M, N))
        self.assertIsNone(crossing(program=made, name="o"))
        self.assertEqual(crossing(made).line, 3)
        self.assertEqual(crossing(program({"x": "n m"}, ("o", "turn", "x", 0), *CROSSING)), Crossed(4, M, N))
        self.assertEqual(repr(crossing(made)), "Crossed(3, Size('m'), Size('n'))")

    def test_which_boundary_comes_first(self):
        turned = [("w", "turn", "v", 0)]
        for line, cut, other in ((turned[0], "m", "n"), (("w", "pick", "v", 1), "m", "n"), (("w", "spread", "v", 1, K), "m", "n"), (("w", "sum", "v", (0,)), "m", "n")):
            self.assertEqual(crossing(program({"x": "n m"}, *CROSSING[:3], line)), Crossed(3, size(cut), size(other)))
        self.assertIsNone(crossing(program({"x": "n m"}, *CROSSING[:3], ("w", "spread", "v", 2, K))))
        self.assertIsNone(crossing(program({"x": "n m"}, *CROSSING[:3], ("w", "sum", "v", (0, 1)))))
        made = program({"x": "n m k"}, ("y", "permute", "x", (2, 1, 0)), ("z", "merge", "y", 0, 3), ("v", "split", "z", 0, (N, M, K)), ("w", "permute", "v", (2, 1, 0)))
        self.assertEqual(crossing(made), Crossed(3, K, N))
        self.assertEqual(crossing(made.knowing(Divides(K, N))), Crossed(3, M * K, N))
        self.assertEqual(crossing(made.knowing(Divides(N, K))), Crossed(3, K, N * M))
        made = program({"x": "n m"}, *CROSSING[:3], ("p", "cells", "f", ("x", "v")), ("q", "turn", "p", 0), ("r", "cells", "f", ("v", "v")), ("s", "turn", "r", 1))
        self.assertEqual((crossing(made, "q"), crossing(made, "s")), (Crossed(4, M, N), Crossed(6, M, N)))
        made = program({"x": "n m", "u": "n k m"}, *CROSSING[:3], ("p", "spread", "v", 1, ONE), ("q", "cells", "f", ("u", "p")))
        self.assertEqual(crossing(made), Crossed(4, M, N))

    def test_axes_that_are_1_cut_nothing(self):
        made = program({"x": "n m"}, *CROSSING[:3], ("p", "spread", "v", 1, ONE))
        for line in (("q", "turn", "p", 1), ("q", "pick", "p", 1), ("q", "drop", "p", 1), ("q", "sum", "p", (1,)), ("q", "spread", "p", 1, ONE),
                     ("q", "permute", "p", (1, 0, 2)), ("q", "permute", "p", (0, 2, 1)), ("q", "cells", "f", ("p", "p"))):
            self.assertIsNone(crossing(made.extended(line)))
        self.assertEqual(crossing(made.extended(("q", "permute", "p", (2, 1, 0)))), Crossed(4, M, N))

    def test_by_rows(self):
        crossed = 0
        for seed in range(60):
            made = reordered(Maker(seed), 2)
            found = crossing(made)
            if found is None:
                self.check_terms(made)
                continue
            crossed += 1
            line = made.lines()[found.line]
            self.assertIsNone(crossing(made, line[2]))
            self.assertEqual(first_barrier(made, line), (found.cut, found.other))
        self.assertGreater(crossed, 10)

    def check_terms(self, made):
        numbers = kept_numbers(made, 4)[-1]
        cells = list(arrays_at(made, numbers)[0][made.result][1].values())
        for index in range(0, len(cells), 7):
            self.assertEqual(term_at(made, numbers, index), cells[index])


def reordered(maker, many):
    """A program that puts the cells of an input into other shapes with axes in other sequences."""
    axes = [Size({name: 1}) for name in maker.source.sample("nmk", maker.source.randint(2, 3))]
    made = Program([("x", tuple(axes))], (), maker.facts(1))
    for step in "abcd"[:many]:
        order = tuple(maker.source.sample(range(len(axes)), len(axes)))
        made = made.extended((f"p{step}", "permute", made.result, order))
        axes = list(sized_axes(made, made.result))
        if maker.source.random() < 0.5:
            made = made.extended((f"t{step}", "turn", made.result, maker.source.randrange(len(axes))))
        maker.source.shuffle(axes)
        made = made.extended((f"m{step}", "merge", made.result, 0, len(axes)), (f"s{step}", "split", f"m{step}", 0, tuple(axes)))
    return made


def first_barrier(made, line):
    """The first boundary, of a line that turns or permutes, at which the row of its array cannot be cut, and the barrier."""
    axes = shape(made, line[2])
    ahead = [Size.product(*axes[axis:]) for axis in range(len(axes) + 1)]
    active = [axis for axis in range(len(axes)) if not Always(made.facts()).is_one(axes[axis])]
    if line[1] == "turn":
        cuts = [ahead[line[3] + 1], ahead[line[3]]]
    else:
        order = [axis for axis in line[3] if axis in active]
        beside = list(zip(order, order[1:]))
        cuts = [ahead[high] for low, high in list(zip(active, active[1:]))[::-1] if (low, high) not in beside]
    cut_row = list(leaves(made, line[2]))[0].row
    for cut in cuts:
        try:
            cut_row = cut_row.cut_at(cut, made.facts())
        except CannotCut as error:
            return error.cut, error.other
    raise AssertionError("it can be cut")


class TestTerms(unittest.TestCase):

    def test_by_arrays_made_here(self):
        checked = 0
        for seed in range(80):
            maker = Maker(seed)
            made = maker.program(9)
            there = kept_numbers(made, 4)
            for numbers in maker.source.sample(there, min(2, len(there))):
                arrays, _ = arrays_at(made, numbers)
                for name in made.arrays():
                    cells = list(arrays[name][1].values())
                    if crossing(made, name) is not None or len(cells) > 200:
                        continue
                    checked += 1
                    tree = tree_of(made, name)
                    for index in sorted({0, len(cells) // 2, len(cells) - 1}):
                        self.assertEqual(term_at(made, numbers, index, name), cells[index])
                        self.assertEqual(self.term(tree, numbers, index, ()), cells[index])
        self.assertGreater(checked, 500)

    def term(self, tree, numbers, index, inner):
        """The term of a tree at numbers, by the places of its leaves."""
        if tree[0] == "in":
            return "in", tree[1].source, tree[1].place(index, numbers, inner)
        if tree[0] == "let":
            return "let", tree[1], tuple(self.term(part, numbers, index, inner) for part in tree[2])
        return word(tree[0], [self.term(tree[2], numbers, index, inner + (at,)) for at in range(tree[1].at(numbers))])

    def test_which_error_comes_first(self):
        made = program({"x": "n m"}, *CROSSING[:3], ("s", "sum", "v", (0, 1)), ("w", "permute", "v", (1, 0)), ("b", "spread", "x", 1, K), given=("k | n",))
        fails = made.extended(("c", "drop", "b", 0), ("d", "drop", "b", 1))
        for value in [value for value in NO_ARRAYS if value != "w"]:
            for call in (lambda: crossing(fails, value), lambda: tree_of(fails, value), lambda: list(leaves(fails, value)), lambda: term_at(fails, None, None, value)):
                with self.assertRaises(UnknownArray) as caught:
                    call()
                self.assertIs(caught.exception.name, value)
        for name in ("x", "w", "c", None):
            for call in (lambda: crossing(fails, name), lambda: tree_of(fails, name), lambda: list(leaves(fails, name)), lambda: term_at(fails, None, None, name)):
                with self.assertRaises(DoesNotRun) as caught:
                    call()
                self.assertEqual(caught.exception.line, 6)
        for value in no_dicts() + [{}, {"n": 2, "m": 2}, {"n": 2, "m": 2, "k": 0}, {"n": 2, "m": 2, "k": True}]:
            for name in ("x", "w"):
                with self.assertRaises(InvalidNumbers) as caught:
                    term_at(made, value, None, name)
                self.assertIs(caught.exception.value, value)
        with self.assertRaises(BrokenFact) as caught:
            term_at(made, {"n": 3, "m": 2, "k": 2}, None, "w")
        self.assertEqual(caught.exception.position, 0)
        with self.assertRaises(IsCrossed):
            term_at(made, {"n": 2, "m": 2, "k": 2}, None, "w")
        numbers = {"n": 141, "m": 142, "k": 1}
        for value in odd_values() + [1, True, "0", [0]]:
            with self.assertRaises(InvalidIndex) as caught:
                term_at(made, numbers, value, "s")
            self.assertIs(caught.exception.value, value)
        with self.assertRaises(TooMany) as caught:
            term_at(made, numbers, 0, "s")
        self.assertEqual((caught.exception.kind, caught.exception.limit), ("terms", 20000))
        numbers = {"n": 100, "m": 200, "k": 1, "zz": 3}
        self.assertEqual(term_at(program=made, numbers=numbers, index=0, name="s"), Runner(made, numbers).cell([], "s"))
        self.assertEqual(term_at(made, {"n": 2, "m": 3, "k": 1}, 5), ("in", "x", 5))

    def test_leaves_raise_when_the_iteration_begins(self):
        found = leaves(program({"x": "n m"}, *CROSSING))
        with self.assertRaises(IsCrossed):
            next(found)

    def test_a_size_that_is_1_at_some_numbers_alone(self):
        made = program({"x": "n m"}, ("a", "sum", "x", (1,)), ("b", "sum", "a", (0,)), ("c", "cells", "f", ("a", "b")))
        for numbers in ({"n": 1, "m": 1}, {"n": 2, "m": 1}, {"n": 1, "m": 2}):
            for index in range(numbers["n"]):
                self.assertEqual(term_at(made, numbers, index), Runner(made, numbers).cell_at(index))


class TestDigitsOfLeaves(unittest.TestCase):

    def test_turned_digits(self):
        digits = only_leaf(program({"x": "n m"}, ("a", "turn", "x", 0)))[1].digits()
        self.assertEqual([isinstance(digit, Turned) for digit in digits], [False, True])
        self.assertIsInstance(only_leaf(program({"x": "n m"}))[1], Row)


if __name__ == "__main__":
    unittest.main()
