"""The examples of the document, as they stand there, and those of README.md."""

import doctest
import pathlib
import re
import unittest

README = pathlib.Path(__file__).resolve().parent.parent / "README.md"
STAGE_1 = """
>>> from anyshape.numbers import numbers_of
>>> from anyshape.sizes import Size
>>> size = Size.of(n=2, m=1).over(Size.of(k=1))
>>> [str(size), size.at({"n": 3, "m": 4, "k": 6}), str(size.top), size.at_point({"n": 1, "k": 5})]
['k^-1*m*n^2', 6, 'm*n^2', -3]
>>> numbers_of([{"n": 2}, {"n": 1, "m": 1}], "k")
{'k': 1, 'm': 3, 'n': 12}
"""

STAGE_2 = """
>>> from anyshape.cones import Cone
>>> from anyshape.facts import Divides, Equals
>>> from anyshape.follow import follows, is_against, is_why
>>> from anyshape.goals import Either
>>> from anyshape.sizes import Size
>>> n, m, r = Size.of(n=1), Size.of(m=1), Size.of(r=1)
>>> facts = [Divides(n, m), Divides(m, n * r)]
>>> Cone(facts).rays()
[{'r': 1}, {'m': 1, 'r': 1}, {'m': 1, 'n': 1}]
>>> goal = Either(Divides(n, r), Equals(n, m))
>>> [follows(facts, goal), is_against(facts, goal, [{'n': 1, 'm': 1}, {'m': 1, 'r': 1}])]
[False, True]
>>> is_why(facts, Divides(n * n, m * m), (1, (2, 0), {}))
True
"""

STAGE_7 = """
>>> from anyshape.alike import alike
>>> from anyshape.programs import Program
>>> from anyshape.sizes import Size
>>> n, m = Size.of(n=1), Size.of(m=1)
>>> both = [("x", (n, m))]
>>> one = Program(both, [("s", "sum", "x", (0, 1))])
>>> other = Program(both, [("y", "permute", "x", (1, 0)), ("z", "turn", "y", 1), ("s", "sum", "z", (0, 1))])
>>> alike(one, other)
Alike([])
"""

STAGE_8 = """
>>> from anyshape.memory import nest_of, view_of
>>> from anyshape.programs import Program
>>> from anyshape.sizes import Size
>>> n, m = Size.of(n=1), Size.of(m=1)
>>> program = Program([("x", (n, m))], [("y", "permute", "x", (1, 0)), ("z", "turn", "y", 1)])
>>> view = view_of(program)
>>> [view.steps, view.number((1, 0), {"n": 3, "m": 4}), len(nest_of(program))]
[((1, Size('1')), (-1, Size('m'))), 9, 2]
"""

STAGE_9 = """
>>> from anyshape.facts import Divides
>>> from anyshape.judge import is_right
>>> from anyshape.sizes import Size
>>> is_right(("follows", [], Divides(Size.of(n=1), Size())), ("no", [{"n": 1}]))
True
"""


class TestExamples(unittest.TestCase):

    def check(self, text):
        example = doctest.DocTestParser().get_doctest(text, {}, "document", None, 0)
        results = doctest.DocTestRunner(verbose=False).run(example)
        self.assertEqual(results.failed, 0)
        self.assertGreater(results.attempted, 3)

    def test_stage_1(self):
        self.check(STAGE_1)

    def test_stage_2(self):
        self.check(STAGE_2)

    def test_stage_7(self):
        self.check(STAGE_7)

    def test_stage_8(self):
        self.check(STAGE_8)

    def test_stage_9(self):
        self.check(STAGE_9)

    def test_readme(self):
        blocks = re.findall("```\n(>>> .*?)```", README.read_text(encoding="utf-8"), re.DOTALL)
        self.check("\n".join(blocks))


if __name__ == "__main__":
    unittest.main()
