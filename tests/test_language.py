"""The package keeps to its subset of Python, and has the methods where the document lists them."""

import importlib
import inspect
import pathlib
import tempfile
import unittest

import rules

LISTED = {
    "sizes": {"Size": "of read product is_whole top bottom names exponents exponent over power at at_point __mul__ __contains__"
                      " __len__ __eq__ __str__ __repr__"},
    "goals": {"Goal": "facts names depth holds_at holds_for",
              "Both": "facts names depth holds_at holds_for goals __len__ __eq__ __str__ __repr__",
              "Either": "facts names depth holds_at holds_for goals __len__ __eq__ __str__ __repr__"},
    "facts": {"Fact": "facts names depth holds_at holds_for one other exponent kept_by",
              "Divides": "facts names depth holds_at holds_for one other exponent kept_by __eq__ __str__ __repr__",
              "Equals": "facts names depth holds_at holds_for one other exponent kept_by __eq__ __str__ __repr__"},
    "cones": {"Cone": "facts names rays is_within __len__ __contains__ __and__ __eq__"},
    "follow": {"Always": "divides equals is_one"},
    "programs": {"Program": "inputs lines facts arrays names axis_count leaf_count line_of extended knowing only result __contains__"
                            " __len__ __eq__ __repr__"},
    "shapes": {"Answer": "is_yes", "Runs": "is_yes __eq__ __repr__", "Fails": "__init__ is_yes __eq__ __repr__"},
    "runner": {"Runner": "program numbers failing __contains__ __eq__ shape cost cell cell_at walk cell_values"},
    "rows": {"Digit": "radix factor turned", "Unused": "radix factor turned __eq__ __repr__", "Straight": "radix factor turned __eq__ __repr__",
             "Turned": "radix factor turned __eq__ __repr__",
             "Row": "digits __len__ __iter__ total cuts place melted cut_at __eq__ __repr__"},
    "places": {"Leaf": "source row tops bound place __eq__", "Crossed": "__init__ is_yes __eq__ __repr__"},
    "bits": {"BitLeaf": "source wires ones bound wire place __eq__"},
    "alike": {name: "__init__ is_yes __eq__ __repr__" for name in ("Alike", "Unlike", "Stopped")},
    "memory": {**{name: "__init__ is_yes __eq__ __repr__" for name in ("Bent", "NoNest", "OtherSize", "Overwritten")},
               **{name: "is_yes __eq__ __repr__" for name in ("NotSingle", "HasWord", "InPlace")},
               "View": "__init__ is_yes number __eq__ __repr__", "Nest": "__init__ is_yes walk __len__ __eq__ __repr__"},
    "most": {name: "__init__ is_yes __eq__ __repr__" for name in ("Covered", "Above", "NeverGreater", "Greater")},
    "book": {"Book": "__init__ put drop learn forget undo facts names program_named standing classes deeds __contains__ __len__ __eq__"},
    "desk": {"Desk": "__init__ do do_all tried log book"},
}
PROPERTIES = ("is_whole top bottom depth one other result is_yes program numbers failing radix factor total source row tops bound wires"
              " ones deeds").split()
FUNCTIONS = {
    "numbers": {"is_name": "(value)", "is_numbers": "(value)", "is_point": "(value)", "primes": "(many)",
                "numbers_of": "(points, *names)"},
    "follow": {"follows": "(facts, goal)", "why": "(facts, goal)", "against": "(facts, goal, *, full=False)",
               "is_why": "(facts, goal, value)", "is_against": "(facts, goal, value)"},
    "more": {"ones": "(facts, *, names=())", "alike_names": "(facts, *, names=())", "lean": "(facts)"},
    "weakest": {"weakest": "(facts, goal)", "is_weakest": "(facts, goal, value)"},
    "programs": {"Program": "(inputs, lines=(), facts=())"},
    "shapes": {"Runs": "()", "Fails": "(line, axis, points)", "runs": "(program)", "is_fails": "(program, value)", "shape": "(program, name=None)",
               "shape_at": "(program, numbers, name=None)"},
    "needs": {"pair_count": "(program)", "needs": "(program)", "is_needs": "(program, value)"},
    "terms": {"is_term": "(value)", "put_together": "(word, terms)", "reads_of": "(term)", "term_text": "(term)"},
    "runner": {"Runner": "(program, numbers)"},
    "rows": {"Unused": "(radix)", "Straight": "(radix, factor)", "Turned": "(radix, factor)", "Row": "(digits=())"},
    "places": {"Crossed": "(line, cut, other)", "crossing": "(program, name=None)", "tree_of": "(program, name=None)",
               "leaves": "(program, name=None)", "term_at": "(program, numbers, index, name=None)"},
    "bits": {"length_of": "(size, point)", "lengths_at": "(program, point, name=None)", "bit_tree": "(program, point, name=None)"},
    "bitruns": {"normal_bits": "(program, point, name=None)", "parting_at": "(one, other, point)"},
    "nodes": {"word_crossing": "(program, name=None)", "word_digits": "(program, name=None)"}, "normal": {"normal_tree": "(program, name=None)"},
    "alike": {"Alike": "(reasons)", "Unlike": "(point, what, where)", "Stopped": "(which, answer)", "alike": "(one, other)", "telling_point": "(one, other)"},
    "papers": {"is_answer": "(one, other, value)", "lean_answer": "(one, other, answer)"},
    "memory": {"view_of": "(program, name=None)", "nest_of": "(program, name=None)", "in_place": "(program, source, name=None)", "is_view": "(program, value, name=None)",
               "is_nest": "(program, value, name=None)", "Bent": "(axis, point, bit)", "View": "(source, steps, start)", "NoNest": "(one, other, points)", "NotSingle": "()",
               "HasWord": "()", "InPlace": "()", "Nest": "(loops, starts)", "OtherSize": "(point)", "Overwritten": "(point, leaf, bit)"},
    "most": {"cover": "(size, others, facts=())", "is_cover": "(size, others, value, facts=())", "never_greater": "(one, other)", "Covered": "(counts, reason)", "Above": "(point)",
             "NeverGreater": "(covers)", "Greater": "(name, point)"},
    "texts": {"program_text": "(program)", "book_text": "(book)", "read_program": "(text)", "read_book": "(text)", "read_fact": "(text)", "read_goal": "(text)"},
    "book": {"Book": "(facts=())"}, "desk": {"Desk": "()"},
    "judge": {"run_certificate": "(program)", "is_run_certificate": "(program, value)", "is_question": "(value)", "answer_to": "(question)", "is_right": "(question, value)"},
    "sizes": {"Size": "(exponents=None)"}, "goals": {"Both": "(*goals)", "Either": "(*goals)"},
    "facts": {"Divides": "(one, other)", "Equals": "(one, other)"}, "cones": {"Cone": "(facts, *, names=())"},
}
METHODS = [("runner.Runner", "shape", "(self, name=None)"), ("runner.Runner", "cost", "(self, name=None)"),
           ("runner.Runner", "cell", "(self, positions, name=None)"), ("runner.Runner", "cell_at", "(self, number, name=None)"),
           ("runner.Runner", "walk", "(self, name=None)"), ("runner.Runner", "cell_values", "(self, contents, meanings, name=None)"),
           ("programs.Program", "extended", "(self, *lines)"), ("programs.Program", "knowing", "(self, *facts)"),
           ("programs.Program", "only", "(self, name=None)"), ("programs.Program", "line_of", "(self, name=None)"),
           ("rows.Row", "place", "(self, index, numbers)"), ("rows.Row", "melted", "(self, facts)"), ("rows.Row", "cut_at", "(self, size, facts)"),
           ("places.Leaf", "place", "(self, index, numbers, inner=())"), ("bits.BitLeaf", "place", "(self, runs, inner=())"),
           ("bits.BitLeaf", "wire", "(self, position)"), ("memory.View", "number", "(self, position, numbers)"), ("memory.Nest", "walk", "(self, numbers)"),
           ("book.Book", "put", "(self, name, program)"), ("book.Book", "drop", "(self, name)"), ("book.Book", "learn", "(self, *facts)"), ("book.Book", "forget", "(self, fact)"),
           ("book.Book", "program_named", "(self, name)"), ("book.Book", "standing", "(self, name)"), ("desk.Desk", "do", "(self, command)"), ("desk.Desk", "do_all", "(self, commands)"),
           ("desk.Desk", "tried", "(self, commands)")]
BAD = {
    "x = any(y for y in [])\n": "GeneratorExp", "def f(n):\n    return 2 ** n\n": "exponent", "x = 1 / 2\n": "Div",
    "def f(list):\n    return 1\n": "variable list", "def f():\n    y = zip([], [])\n": "zip is not",
    "def f(xs):\n    return xs.sort()\n": "method sort", "X = '%'\n": "a string with", "def f():\n    raise ERROR\n": "error",
    "def f():\n    try:\n        pass\n    except ValueError:\n        pass\n": "caught", "def f(x):\n    return {x}\n": "Set",
    "def f(x: int):\n    return x\n": "annotation", "X = 1\nX = 2\n": "twice", "import os\n": "statement Import",
    "def f():\n" + "    x = 1\n" * 40: "too long", "def f(x):\n    return print(x)\n": "builtin print", "x = [lambda: 1][0]()\n": "call",
    "class A:\n    @property\n    def n(self):\n        return 1\n\n\nclass B:\n    def __init__(self):\n        self.n = 1\n":
        "n is assigned, and A has it without a setter",
    "def f(box):\n    for box.other in [1]:\n        return\n\n\nclass A:\n    @property\n    def other(self):\n        return 1\n":
        "other is assigned",
    "class A:\n    def n(self):\n        return 1\n\n    @n.setter\n    def n(self, value):\n        pass\n": "a decorator",
    "from anyshape.shapes import runs\nTABLE = {'a': runs}\n": "not a function above", "def f(x):\n    return zip(*sorted(x))\n": "a star over", "def f(x):\n    return max(*x.rows, *[y for y in x])\n": "a star over",
    "def f(x):\n    return x is 1.5\n": "is beside", "def f():\n    global x\n    x = 1\n": "statement Global",
}


class TestSubset(unittest.TestCase):

    def test_each_file_keeps_to_the_rules(self):
        self.assertEqual([fault for file in rules.files() for fault in rules.faults(file)], [])
        self.assertEqual(rules.shared_names(rules.files()), [])
        self.assertEqual(rules.circles(), [])

    def test_the_folder_has_nothing_else(self):
        for path in rules.FOLDER.iterdir():
            if path.name != "__pycache__":
                self.assertRegex(path.name, r"^[a-z_][a-z0-9_]*\.py$")
        self.assertTrue((rules.FOLDER / "__init__.py").is_file())

    def test_what_is_bad_is_seen(self):
        with tempfile.TemporaryDirectory() as folder:
            path = pathlib.Path(folder) / "bad.py"
            for text, fault in BAD.items():
                path.write_text(text, encoding="utf-8")
                try:
                    found = rules.faults(rules.File(path))
                except SyntaxError as error:
                    found = [f"is beside {error}"]
                self.assertTrue(any(fault in line for line in found), (text, found))


    def test_names_that_two_kinds_share_are_seen(self):
        text = ("class A:\n    TOP = 1\n\n    @property\n    def one(self):\n        return 1\n\n    @classmethod\n    def two(cls):\n        return 2\n\n"
                "    def three(self):\n        yield 3\n\n\nclass B:\n    def one(self):\n        self.two = 1\n        self.TOP = 2\n\n"
                "    def two(self):\n        self.four = 4\n\n    def four(self):\n        return 4\n\n\ndef three():\n    return 3\n")
        with tempfile.TemporaryDirectory() as folder:
            path = pathlib.Path(folder) / "bad.py"
            path.write_text(text, encoding="utf-8")
            found = rules.shared_names([rules.File(path)])
        self.assertEqual(found, ["one is a property and a method", "two is a classmethod and a method", "two is a classmethod and a attribute",
                                 "four is a method and a attribute", "two is a method and a attribute", "TOP is a class value and a attribute",
                                 "three is a generator and something else"])

    def test_a_property_with_a_setter_may_be_assigned(self):
        text = ("class A:\n    @property\n    def n(self):\n        return 1\n\n    @n.setter\n    def n(self, value):\n        pass\n"
                "\n\nclass B:\n    def __init__(self):\n        self.n = 1\n")
        with tempfile.TemporaryDirectory() as folder:
            path = pathlib.Path(folder) / "good.py"
            path.write_text(text, encoding="utf-8")
            found = rules.faults(rules.File(path))
        # The attribute of B still has the name of a method of this file.
        self.assertEqual(found, ["good.py:13: n is a method and an attribute"])


class TestInterface(unittest.TestCase):

    def test_methods_stand_in_their_own_classes(self):
        for module, classes in LISTED.items():
            for name, methods in classes.items():
                made = getattr(importlib.import_module(f"anyshape.{module}"), name)
                self.assertEqual(made.__module__, f"anyshape.{module}")
                for method in methods.split():
                    self.assertIn(method, vars(made), name)
                    self.assertIs(isinstance(vars(made)[method], property), method in PROPERTIES)
        for method in ("of", "read", "product"):
            self.assertIsInstance(vars(importlib.import_module("anyshape.sizes").Size)[method], classmethod)

    def test_functions_stand_in_their_own_files(self):
        for module, functions in FUNCTIONS.items():
            for name, parameters in functions.items():
                made = getattr(importlib.import_module(f"anyshape.{module}"), name)
                self.assertEqual((made.__module__, str(inspect.signature(made))), (f"anyshape.{module}", parameters))
        for module, name in (("numbers", "primes"), ("places", "leaves"), ("runner", "Runner.walk"), ("memory", "Nest.walk")):
            made = importlib.import_module(f"anyshape.{module}")
            for part in name.split("."):
                made = getattr(made, part)
            self.assertTrue(inspect.isgeneratorfunction(made))

    def test_methods_have_their_parameters(self):
        for place, method, parameters in METHODS:
            module, name = place.split(".")
            made = getattr(importlib.import_module(f"anyshape.{module}"), name)
            self.assertEqual(str(inspect.signature(getattr(made, method))), parameters)


if __name__ == "__main__":
    unittest.main()
