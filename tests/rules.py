"""Checks of the subset of Python in which the package is written, as far as a program can see it.

Each check takes a File and yields pairs (line, what is wrong). The rules are stricter here than they
need be where the package does without what they allow.
"""

import ast
import builtins
import functools
import io
import pathlib
import re
import tokenize
import warnings

FOLDER = pathlib.Path(__file__).resolve().parent.parent / "anyshape"
BUILTINS = set("""len range enumerate zip min max sum abs sorted reversed int str bool bytes list tuple dict set isinstance
    ord repr any all divmod""".split())
ERRORS = set("""Exception ValueError TypeError KeyError IndexError LookupError ZeroDivisionError ArithmeticError OverflowError
    RuntimeError NotImplementedError AttributeError""".split())
METHODS = set("""append clear copy count endswith extend find get index insert isalnum isalpha isdigit islower isspace isupper
    items join keys ljust lower lstrip partition pop remove replace reverse rfind rjust rpartition rsplit rstrip setdefault
    split splitlines startswith strip update upper values zfill bit_length title capitalize swapcase casefold expandtabs
    removeprefix removesuffix rindex isascii isdecimal isnumeric istitle isidentifier isprintable""".split())
LIBRARY = {"math": {"gcd", "lcm", "isqrt", "comb", "perm", "factorial"}, "heapq": {"heappush", "heappop", "heapify"}}
DUNDERS = set("""__init__ __eq__ __repr__ __str__ __len__ __iter__ __contains__ __mul__ __and__""".split())
STATEMENTS = (ast.Assign, ast.If, ast.While, ast.For, ast.Return, ast.Break, ast.Continue, ast.Pass, ast.Raise, ast.Assert,
              ast.Delete, ast.Try, ast.Expr, ast.FunctionDef, ast.ClassDef, ast.ImportFrom, ast.AugAssign)
BANNED_TEXT = set("""type typing typing_extensions enum Enum IntEnum StrEnum Flag IntFlag Generic Protocol ABC ABCMeta namedtuple
    NamedTuple TypedDict TYPE_CHECKING abstractmethod""".split())
BANNED_NAMES = set("""register mro elements open input law version_info with_traceback add_note attrgetter breakpoint builtins
    compile copyright credits delattr dir eval exec exit gc globals help id importlib license locals methodcaller os quit vars
    sys args format""".split())
BESIDE = [("property", "method"), ("property", "classmethod"), ("classmethod", "method"), ("classmethod", "attribute"),
          ("method", "attribute"), ("class value", "method"), ("class value", "attribute"), ("class value", "property")]
LAZY = {"zip", "enumerate", "range", "reversed"}
EAGER = {"list", "tuple", "dict", "sorted", "sum", "any", "all", "enumerate", "zip", "min", "max"}


class File:
    """One file of the package: its text, its tree, and what stands above each node."""

    def __init__(self, path):
        self.path = path
        self.text = path.read_text(encoding="utf-8")
        with warnings.catch_warnings():
            warnings.simplefilter("error")
            compile(self.text, str(path), "exec")
        self.tree = ast.parse(self.text)
        self.nodes = list(ast.walk(self.tree))
        self.above = {child: node for node in self.nodes for child in ast.iter_child_nodes(node)}

    def each(self, *kinds):
        return [node for node in self.nodes if isinstance(node, kinds)]

    def docstrings(self):
        owners = self.each(ast.Module, ast.ClassDef, ast.FunctionDef)
        return [node.body[0].value for node in owners if ast.get_docstring(node) is not None]


@functools.cache
def files():
    """All files of the package."""
    return [File(path) for path in sorted(FOLDER.glob("*.py"))]


def characters(file):
    """L10, L14: lines, characters, sizes."""
    lines = file.text.split("\n")
    if len(lines) - 1 > 399:
        yield len(lines), "too many lines"
    for number, line in enumerate(lines, 1):
        if len(line) > 120:
            yield number, "a long line"
        if any(not " " <= letter <= "~" for letter in line):
            yield number, "a character that is not from the space to ~"
    for node in file.each(ast.FunctionDef):
        if node.end_lineno - node.lineno + 1 > 40:
            yield node.lineno, f"{node.name} is too long"


def words(file):
    """L12, L17: words that do not occur."""
    docs = {node.lineno for node in file.docstrings()}
    for token in tokenize.generate_tokens(io.StringIO(file.text).readline):
        if token.type in (tokenize.NAME, tokenize.STRING) and token.start[0] not in docs:
            for word in re.findall(r"\w+", token.string):
                if word in BANNED_TEXT or re.search("dataclass|overload|contextmanager", word):
                    yield token.start[0], f"the word {word}"
        if re.search("_wall|_WallAttr", token.string):
            yield token.start[0], "the word _wall"


def module_level(file):
    """L2, L3, L15, L16: what stands at module level."""
    bound, made = set(), set()
    for place, node in enumerate(file.tree.body):
        if isinstance(node, ast.FunctionDef):
            made.add(node.name)
        names = [getattr(node, "name", None)]
        if isinstance(node, ast.ImportFrom):
            yield from imports(node)
            names = [part.name for part in node.names]
        elif isinstance(node, ast.Assign):
            names = [target.id for target in node.targets if isinstance(target, ast.Name)]
            if len(names) != 1 or len(node.targets) != 1 or not is_plain(node.value):
                yield node.lineno, "not a plain value"
            if isinstance(node.value, ast.Dict) and any(isinstance(one, ast.Name) and one.id not in made for one in node.value.values):
                yield node.lineno, "a table of what is not a function above it"
        elif not isinstance(node, (ast.FunctionDef, ast.ClassDef)) and not (place == 0 and isinstance(node, ast.Expr)):
            yield node.lineno, "not allowed at module level"
        for name in names:
            if name in bound:
                yield node.lineno, f"{name} is bound twice"
            bound.add(name)


def is_plain(node):
    """Whether the node is a constant, numbers joined by signs, or a tuple or a dict of such and of names."""
    if isinstance(node, ast.BinOp):
        return is_plain(node.left) and is_plain(node.right)
    if isinstance(node, ast.Tuple):
        return all(isinstance(one, ast.Constant) for one in node.elts)
    if isinstance(node, ast.Dict):
        return all(isinstance(one, (ast.Constant, ast.Name)) for one in node.keys + node.values)
    return isinstance(node, ast.Constant)


def imports(node):
    """L2, L16: each import names the file that defines the name."""
    for part in node.names:
        if part.asname is not None or node.level != 0:
            yield node.lineno, "an import in another form"
        elif node.module in LIBRARY:
            if part.name not in LIBRARY[node.module]:
                yield node.lineno, f"{part.name} is not allowed"
        else:
            source = File(FOLDER.parent / (node.module.replace(".", "/") + ".py"))
            defined = [getattr(one, "name", None) or one.targets[0].id for one in source.tree.body
                       if isinstance(one, (ast.FunctionDef, ast.ClassDef, ast.Assign))]
            if not node.module.startswith("anyshape.") or part.name not in defined:
                yield node.lineno, f"{part.name} is not defined there"


def statements(file):
    """L4, L5, L6, L7, L21: which statements and expressions there are."""
    for node in file.nodes:
        if isinstance(node, ast.stmt) and not isinstance(node, STATEMENTS):
            yield node.lineno, f"the statement {node.__class__.__name__}"
        if isinstance(node, (ast.GeneratorExp, ast.Await, ast.NamedExpr, ast.Set, ast.SetComp, ast.Div)):
            yield getattr(node, "lineno", 0), f"the expression {node.__class__.__name__}"
        if isinstance(node, ast.Constant) and isinstance(node.value, (float, complex, bytes)):
            yield node.lineno, "a constant of another kind"
        if isinstance(node, ast.BinOp) and isinstance(node.op, ast.Pow):
            if not (isinstance(node.right, ast.Constant) and node.right.value in range(65)):
                yield node.lineno, "an exponent that is not written"
        if isinstance(node, ast.Compare) and any(isinstance(sign, (ast.Is, ast.IsNot)) for sign in node.ops):
            if not (isinstance(node.comparators[0], ast.Constant) and node.comparators[0].value in (None, True, False)):
                yield node.lineno, "is beside another value"
        if isinstance(node, ast.arg) and node.annotation is not None:
            yield node.lineno, "an annotation"
        if isinstance(node, (ast.FunctionDef, ast.ClassDef)):
            yield from definitions(file, node)


def definitions(file, node):
    """L3 to L5, L28: functions and classes."""
    above = file.above[node]
    for one in node.decorator_list:
        name = getattr(one, "id", None)
        is_plain_one = name in ("property", "classmethod", "staticmethod")
        if not isinstance(above, ast.ClassDef) or not (is_plain_one or is_setter(above, node)):
            yield node.lineno, "a decorator"
    if isinstance(node, ast.ClassDef):
        names = [one.name for one in node.body if isinstance(one, ast.FunctionDef) and not is_setter(node, one)]
        if len(names) != len(set(names)) or not isinstance(above, ast.Module):
            yield node.lineno, "a method twice, or a class in another place"
    elif node.name.startswith("__") and node.name not in DUNDERS:
        yield node.lineno, node.name
    elif node.name in ("__str__", "__repr__", "__len__", "__eq__", "__contains__"):
        last = [one for one in node.body if not isinstance(one, ast.Expr)]
        if len(last) != 1 or not isinstance(last[0], ast.Return):
            yield node.lineno, f"{node.name} does more than return"


def is_setter(above, node):
    """Whether a function in a class is the setter of a property that stands ahead of it."""
    if not isinstance(node, ast.FunctionDef) or [ast.unparse(one) for one in node.decorator_list] != [f"{node.name}.setter"]:
        return False
    ahead = above.body[:above.body.index(node)]
    return any(is_property(one) and one.name == node.name for one in ahead) and len(node.args.args) == 2


def is_property(node):
    """Whether a node is a function that is read as an attribute."""
    return isinstance(node, ast.FunctionDef) and [ast.unparse(one) for one in node.decorator_list] == ["property"]


def given_properties(file):
    """L5: an attribute is assigned only if every class that has a property of that name has its setter."""
    lacking = {}
    for other in files() + [file]:
        for above in other.each(ast.ClassDef):
            setters = [one.name for one in above.body if is_setter(above, one)]
            lacking.update({one.name: above.name for one in above.body if is_property(one) and one.name not in setters})
    for node in file.each(ast.Attribute):
        if not isinstance(node.ctx, ast.Load) and node.attr in lacking:
            yield node.lineno, f"{node.attr} is assigned, and {lacking[node.attr]} has it without a setter"


def names(file):
    """L8, L12, L15, L17, L26: names that are bound."""
    own = {node.name for node in file.each(ast.ClassDef)}
    own |= {part.name for node in file.each(ast.ImportFrom) for part in node.names}
    bound = [(node.id, node.lineno) for node in file.each(ast.Name) if isinstance(node.ctx, ast.Store)]
    bound += [(node.arg, node.lineno) for node in file.each(ast.arg)]
    for name, line in bound:
        if (hasattr(builtins, name) and name != "_") or name in own:
            yield line, f"the variable {name}"
    bound += [(node.name, node.lineno) for node in file.each(ast.FunctionDef, ast.ClassDef)]
    attributes = [(node.attr, node.lineno) for node in file.each(ast.Attribute) if isinstance(node.ctx, ast.Store)]
    for name, line in bound + attributes:
        if name in BANNED_NAMES or not re.fullmatch(r"_|_?[A-Za-z][A-Za-z0-9_]*|__[a-z]+__", name):
            yield line, f"the name {name}"
        if re.match("_(pe|dcw|enum|cm|twin_re|lay|law|stub)_|_sre|_(cold|tuplegetter|outside|record|written_out)", name):
            yield line, f"the name {name}"
    for name, line in attributes:
        if any(hasattr(kind, name) for kind in (str, int, list, dict, set, bytes)) and name not in ("count", "index"):
            yield line, f"the attribute {name}"
    for node in file.each(ast.Name):
        if node.id == "_" and isinstance(node.ctx, ast.Load):
            yield node.lineno, "_ is read"


def calls(file):
    """L8, L19, L22 to L25: what is called, and how."""
    own = {node.name for other in files() for node in other.each(ast.FunctionDef)}
    for node in file.each(ast.Call):
        if isinstance(node.func, ast.Name):
            name = node.func.id
            if hasattr(builtins, name) and name not in BUILTINS | ERRORS | {"super"} and not is_iterator(file, node):
                yield node.lineno, f"the builtin {name}"
            if name in BUILTINS and any(key.arg not in ("key", "reverse", "default", "start", "strict") for key in node.keywords):
                yield node.lineno, f"a keyword of {name}"
            if name in LAZY and not is_iterated(file, node):
                yield node.lineno, f"{name} is not iterated at once"
            if name == "set" and called_by(file, node) not in ("sorted", "len"):
                yield node.lineno, "a set that is kept"
        elif isinstance(node.func, ast.Attribute):
            name = node.func.attr
            if name not in METHODS and name not in own:
                yield node.lineno, f"the method {name}"
            if name in ("items", "keys", "values") and name not in own and not is_iterated(file, node):
                yield node.lineno, f"{name} is not iterated at once"
            if name in METHODS and node.keywords:
                yield node.lineno, f"a keyword of {name}"
        else:
            yield node.lineno, "a call of something else"
        for star in node.args:
            if isinstance(star, ast.Starred) and not (isinstance(star.value, ast.Name) or is_field(star.value)):
                yield node.lineno, "a star over something else"
    for node in file.each(ast.Raise):
        if not (isinstance(node.exc, ast.Call) and isinstance(node.exc.func, ast.Name)):
            yield node.lineno, "an error that is not created on the spot"
    for node in file.each(ast.ExceptHandler):
        named = node.type.elts if isinstance(node.type, ast.Tuple) else [node.type]
        if not all(isinstance(one, ast.Name) and one.id not in ERRORS - {"KeyError", "ZeroDivisionError"} for one in named):
            yield node.lineno, "an error that is not to be caught here"


def is_field(node):
    """Whether a node is an attribute of a name."""
    return isinstance(node, ast.Attribute) and isinstance(node.value, ast.Name)


def is_iterator(file, node):
    """Whether a call is all that an object gives that is iterated over."""
    above = file.above[node]
    if node.func.id != "iter" or not isinstance(above, ast.Return) or getattr(file.above[above], "name", "") != "__iter__":
        return False
    return len(file.above[above].body) == 1 and isinstance(node.args[0], ast.Attribute)


def is_iterated(file, node):
    """Whether a call stands where it is iterated on the spot."""
    above = file.above[node]
    if isinstance(above, (ast.For, ast.comprehension)):
        return above.iter is node
    return called_by(file, node) in EAGER


def called_by(file, node):
    """The name of the function that is called with this value, or None."""
    above = file.above[node]
    if isinstance(above, ast.Call) and isinstance(above.func, ast.Name) and node in above.args:
        return above.func.id
    return None


def strings(file):
    """L27: what stands in strings."""
    for token in tokenize.generate_tokens(io.StringIO(file.text).readline):
        if token.type == tokenize.STRING:
            if "%" in token.string or re.search(r"\\[^nt\\'\"]", token.string):
                yield token.start[0], "a string with % or another escape"
            if re.match(r"['\"]__.*__['\"]$", token.string) or re.search(r"\._+['\"]$", token.string):
                yield token.start[0], "a string with underscores"
    for node in file.each(ast.JoinedStr):
        if node.lineno != node.end_lineno:
            yield node.lineno, "an f-string over two lines"


def named_values(file):
    """L18: in a class and its bases no name is a method and an attribute; the rest are properties."""
    methods = {node.name for node in file.each(ast.FunctionDef)}
    for node in file.each(ast.Attribute):
        if isinstance(node.ctx, ast.Store) and node.attr in methods:
            yield node.lineno, f"{node.attr} is a method and an attribute"


def shared_names(all_files):
    """L5, L18, L23: names of properties, class methods, generators and attributes that something else has, too."""
    kinds = {kind: set() for kind in ("property", "classmethod", "method", "generator", "attribute", "class value")}
    times = []
    for file in all_files:
        for node in file.each(ast.FunctionDef):
            words = [ast.unparse(one) for one in node.decorator_list]
            if any(isinstance(one, (ast.Yield, ast.YieldFrom)) for one in ast.walk(node)):
                kinds["generator"].add(node.name)
            elif words in (["property"], ["classmethod"]):
                kinds[words[0]].add(node.name)
            elif isinstance(file.above[node], ast.ClassDef) and not words:
                kinds["method"].add(node.name)
            elif not words:
                times.append(node.name)
        kinds["attribute"] |= {node.attr for node in file.each(ast.Attribute) if not isinstance(node.ctx, ast.Load)}
        kinds["class value"] |= {node.targets[0].id for node in file.each(ast.Assign)
                                 if isinstance(file.above[node], ast.ClassDef)}
    faults = [f"{name} is a {one} and a {other}" for one, other in BESIDE for name in sorted(kinds[one] & kinds[other])]
    # Two generators with one name are asked for by the document: the walks of runners and nests.
    return faults + [f"{name} is a generator and something else" for name in sorted(kinds["generator"])
                     if times.count(name) > 0 or name in kinds["method"]]


def circles():
    """L16: files that import from each other."""
    wanted = {f"anyshape.{file.path.stem}": {node.module for node in file.each(ast.ImportFrom)} for file in files()}
    left = dict(wanted)
    while left:
        free = [name for name in left if not left[name] & set(left)]
        if not free:
            return sorted(left)
        left = {name: left[name] for name in left if name not in free}
    return []


CHECKS = [characters, words, module_level, statements, given_properties, names, calls, strings, named_values]


def faults(file):
    """All that is wrong in a file."""
    return [f"{file.path.name}:{line}: {text}" for check in CHECKS for line, text in check(file)]
