"""The form of the package's files: what of LANGUAGE.md a look at the files can tell."""

import ast
import builtins
import pathlib
import re
import unittest

PACKAGE = pathlib.Path(__file__).resolve().parent.parent / "heraldways"

OWN_NAMES = set("""len range enumerate zip min max sum abs sorted reversed int str bool list tuple dict set frozenset
isinstance ord repr any all divmod Exception ValueError TypeError KeyError IndexError LookupError ZeroDivisionError
ArithmeticError OverflowError RuntimeError NotImplementedError StopIteration AttributeError""".split())
METHODS = set("""append clear copy count endswith extend find get index insert isalnum isalpha isdigit islower isspace
isupper items join keys ljust lower lstrip partition pop remove replace reverse rfind rjust rpartition rsplit rstrip
setdefault split splitlines startswith strip update upper values zfill bit_length""".split())
PYTHONS_OWN = set().union(*[dir(kind) for kind in (str, int, list, tuple, dict, set, frozenset, bytes, bool)])
OWN_VALUES = set("count index title find get join lower upper split strip copy add".split())
TWO_UNDERSCORES = set("__init__ __eq__ __repr__ __str__ __len__".split())
WORDS_OUT = re.compile(r"\b(type|typing|typing_extensions|enum|Enum|IntEnum|StrEnum|Flag|IntFlag|Generic|Protocol|ABC"
                       r"|ABCMeta|namedtuple|NamedTuple|TypedDict|TYPE_CHECKING|abstractmethod)\b"
                       r"|dataclass|overload|contextmanager")
NAMES_OUT = set("""register mro elements open input version_info with_traceback add_note attrgetter breakpoint builtins
compile copyright credits delattr dir eval exec exit gc getattr globals hasattr help id importlib license locals
methodcaller os quit setattr super type vars sys chr format format_map""".split())
STATEMENTS = (ast.Assign, ast.AugAssign, ast.If, ast.While, ast.For, ast.Return, ast.Break, ast.Continue, ast.Pass,
              ast.Raise, ast.Try, ast.Expr, ast.FunctionDef, ast.ClassDef, ast.ImportFrom)
EXPRESSIONS = (ast.Constant, ast.List, ast.Tuple, ast.Dict, ast.Set, ast.BinOp, ast.UnaryOp, ast.Compare, ast.BoolOp,
               ast.IfExp, ast.Call, ast.Attribute, ast.Subscript, ast.Slice, ast.ListComp, ast.JoinedStr,
               ast.FormattedValue, ast.Name, ast.Lambda)
WALKED_AT_ONCE = set("zip enumerate reversed range".split())
WALKERS = set("list tuple dict sorted sum any all enumerate zip min max".split())
PLAIN_NAME = re.compile(r"[A-Za-z][A-Za-z0-9_]*\Z")
BUILT_IN = set(dir(builtins))


def sign_faults(text):
    """L10, L14, L17, L27: what the rows of a file show without being parsed."""
    faults = []
    if re.search(r"[^\n -~]", text):
        faults.append("L14")
    if any(len(row) > 120 for row in text.split("\n")) or text.count("\n") > 400:
        faults.append("L10")
    if WORDS_OUT.search(text):
        faults.append("L17")
    return faults


def bound_names(tree):
    """Names that are given a meaning somewhere in the file, with the places that matter for L12 and L15."""
    names = []
    for node in ast.walk(tree):
        if isinstance(node, (ast.FunctionDef, ast.ClassDef)):
            names.append(node.name)
        elif isinstance(node, ast.arg):
            names.append(node.arg)
        elif isinstance(node, ast.Name) and isinstance(node.ctx, ast.Store):
            names.append(node.id)
        elif isinstance(node, ast.Attribute):
            names.append(node.attr)
        elif isinstance(node, ast.ExceptHandler) and node.name:
            names.append(node.name)
    return names


def local_names(tree):
    found = []
    for node in ast.walk(tree):
        if isinstance(node, ast.arg):
            found.append(node.arg)
        elif isinstance(node, ast.Name) and isinstance(node.ctx, ast.Store):
            found.append(node.id)
    return found


def name_faults(tree):
    """L8, L12, L15, L17."""
    faults = []
    for name in bound_names(tree):
        if not PLAIN_NAME.match(name) and name not in TWO_UNDERSCORES:
            faults.append("L12")
        if name in NAMES_OUT:
            faults.append("L17")
    tops = [node.name for node in tree.body if isinstance(node, ast.ClassDef)]
    for node in tree.body:
        if isinstance(node, ast.ImportFrom):
            tops += [alias.asname or alias.name for alias in node.names]
    if any(name in BUILT_IN or name in tops for name in local_names(tree)):
        faults.append("L15")
    for node in ast.walk(tree):
        if isinstance(node, ast.Name) and node.id in BUILT_IN and node.id not in OWN_NAMES:
            faults.append("L8")
    return faults


def top_faults(tree):
    """L2, L3, L5, L15, L16, L18: the top of a file and the bodies of its classes."""
    faults = []
    top_names = []
    for place, node in enumerate(tree.body):
        if isinstance(node, ast.ImportFrom):
            if node.level or not (node.module or "").startswith("heraldways.") or node.names[0].name == "*":
                faults.append("L2")
        elif isinstance(node, ast.Assign):
            top_names += [target.id for target in node.targets if isinstance(target, ast.Name)]
            if any(isinstance(part, (ast.Call, ast.Lambda, ast.ListComp)) for part in ast.walk(node.value)):
                faults.append("L3")
        elif isinstance(node, (ast.FunctionDef, ast.ClassDef)):
            top_names.append(node.name)
        elif not (place == 0 and isinstance(node, ast.Expr) and isinstance(node.value, ast.Constant)):
            faults.append("L3")
    if len(set(top_names)) != len(top_names):
        faults.append("L15")
    for node in ast.walk(tree):
        if isinstance(node, ast.ClassDef):
            faults += class_faults(node, node in tree.body)
        elif isinstance(node, ast.ImportFrom) and node not in tree.body:
            faults.append("L2")
    return faults


def class_faults(node, at_top):
    faults = [] if at_top else ["L15"]
    if len(node.bases) > 1 or node.keywords or node.decorator_list:
        faults.append("L5")
    if any(not isinstance(part, (ast.FunctionDef, ast.Pass)) for part in node.body):
        faults.append("L5")
    methods = [part.name for part in node.body if isinstance(part, ast.FunctionDef)]
    if any(name.startswith("__") and name not in TWO_UNDERSCORES for name in methods):
        faults.append("L5")
    if len(set(methods)) != len(methods):
        faults.append("L18")
    return faults


def statement_faults(tree):
    """L4, L6, L10, L19, L21."""
    faults = []
    for node in ast.walk(tree):
        if isinstance(node, ast.stmt) and not isinstance(node, STATEMENTS):
            faults.append("L6")
        if isinstance(node, ast.FunctionDef):
            faults += function_faults(node)
        if isinstance(node, ast.Assign) and len(node.targets) != 1:
            faults.append("L6")
        if isinstance(node, (ast.For, ast.While)) and node.orelse:
            faults.append("L6")
        if isinstance(node, ast.Try) and node.finalbody:
            faults.append("L6")
        if isinstance(node, ast.Expr) and not isinstance(node.value, ast.Call) and node is not tree.body[0]:
            faults.append("L6")
        if isinstance(node, ast.ExceptHandler):
            kinds = [part.id for part in ast.walk(node.type) if isinstance(part, ast.Name)] if node.type else []
            if not kinds or "Exception" in kinds or "TypeError" in kinds:
                faults.append("L19")
        if isinstance(node, ast.Raise) and not isinstance(node.exc, ast.Call):
            faults.append("L19")
    return faults


def function_faults(node):
    faults = []
    spread = node.args
    if spread.vararg or spread.kwarg or spread.kwonlyargs or spread.posonlyargs or node.decorator_list:
        faults.append("L4")
    if node.end_lineno - node.lineno + 1 > 40:
        faults.append("L10")
    if node.returns or any(part.annotation for part in spread.args):
        faults.append("L21")
    return faults


def expression_faults(tree):
    """L7, L20, L25, L27."""
    faults = []
    for node in ast.walk(tree):
        if isinstance(node, ast.expr) and not isinstance(node, EXPRESSIONS):
            faults.append("L7")
        if isinstance(node, ast.ListComp):
            if len(node.generators) != 1 or len(node.generators[0].ifs) > 1:
                faults.append("L7")
        if isinstance(node, ast.Constant) and isinstance(node.value, (float, bytes, complex)):
            faults.append("L7")
        if isinstance(node, ast.Constant) and isinstance(node.value, str) and "%" in node.value:
            faults.append("L27")
        if isinstance(node, ast.BinOp) and isinstance(node.op, (ast.Div, ast.MatMult)):
            faults.append("L7")
        if isinstance(node, ast.BinOp) and isinstance(node.op, ast.Pow) and not isinstance(node.right, ast.Constant):
            faults.append("L27")
        if isinstance(node, ast.FormattedValue) and (node.format_spec or not isinstance(node.value, ast.Name)):
            faults.append("L7")
        if isinstance(node, ast.Compare) and any(isinstance(sign, (ast.Is, ast.IsNot)) for sign in node.ops):
            if not all(isinstance(part, ast.Constant) for part in node.comparators):
                faults.append("L20")
    return faults


def parents(tree):
    return {child: node for node in ast.walk(tree) for child in ast.iter_child_nodes(node)}


def called_name(node):
    if isinstance(node, ast.Call) and isinstance(node.func, ast.Name):
        return node.func.id
    return None


def walk_faults(tree):
    """L22 to L24: what is walked on the spot, and where sets stand."""
    faults = []
    above = parents(tree)
    for node in ast.walk(tree):
        if called_name(node) in WALKED_AT_ONCE or is_dict_walk(node):
            up = above[node]
            walked = isinstance(up, (ast.For, ast.comprehension)) and up.iter is node
            if not walked and called_name(up) not in WALKERS and not is_written_join(up):
                faults.append("L23")
        if called_name(node) in ("set", "frozenset") or isinstance(node, ast.Set):
            up = above[node]
            while isinstance(up, ast.BinOp):
                up = above[up]
            if not isinstance(up, ast.Compare) and not (called_name(up) in ("sorted", "len") and not up.keywords):
                faults.append("L24")
        if isinstance(node, ast.Name) and node.id in OWN_NAMES and node.id.islower():
            up = above[node]
            called = isinstance(up, ast.Call) and up.func is node
            asked = called_name(up) == "isinstance" or isinstance(up, (ast.keyword, ast.Tuple))
            if not called and not asked:
                faults.append("L22")
    return faults


def is_dict_walk(node):
    return (isinstance(node, ast.Call) and isinstance(node.func, ast.Attribute)
            and node.func.attr in ("items", "keys", "values"))


def is_written_join(node):
    return (isinstance(node, ast.Call) and isinstance(node.func, ast.Attribute)
            and node.func.attr == "join" and isinstance(node.func.value, ast.Constant))


def file_faults(text):
    tree = ast.parse(text)
    return sorted(set(sign_faults(text) + name_faults(tree) + top_faults(tree) + statement_faults(tree)
                      + expression_faults(tree) + walk_faults(tree)))


def package_texts():
    return {path.name: path.read_text(encoding="utf-8") for path in sorted(PACKAGE.glob("*.py"))}


def methods_and_values(trees):
    methods, values, called = set(), set(), set()
    for tree in trees:
        for node in ast.walk(tree):
            if isinstance(node, ast.ClassDef):
                methods.update(part.name for part in node.body if isinstance(part, ast.FunctionDef))
            if isinstance(node, ast.Attribute) and isinstance(node.ctx, ast.Store):
                values.add(node.attr)
            if isinstance(node, ast.Call) and isinstance(node.func, ast.Attribute):
                called.add(node.func.attr)
    return methods, values, called


def drawn_from(texts):
    """For each file, the files that it imports from."""
    drawn = {}
    for name, text in texts.items():
        rows = [node for node in ast.parse(text).body if isinstance(node, ast.ImportFrom)]
        drawn[name] = [row.module.rpartition(".")[2] + ".py" for row in rows]
    return drawn


class Package(unittest.TestCase):

    def test_nothing_but_plain_files_lies_in_it(self):
        names = [path.name for path in PACKAGE.iterdir() if path.name != "__pycache__"]
        self.assertIn("__init__.py", names)
        for name in names:
            self.assertRegex(name, r"\A([a-z][a-z0-9_]*|__init__|__main__)\.py\Z")

    def test_each_file_keeps_the_form(self):
        for name, text in package_texts().items():
            with self.subTest(name=name):
                self.assertEqual(file_faults(text), [])

    def test_no_name_is_a_method_and_a_value_and_no_other_method_is_called(self):
        methods, values, called = methods_and_values([ast.parse(text) for text in package_texts().values()])
        self.assertEqual(methods & values, set())
        self.assertEqual(called - methods - METHODS, set())

    def test_own_methods_and_values_are_not_called_like_those_of_python_s_own_values(self):
        """L26."""
        methods, values, called = methods_and_values([ast.parse(text) for text in package_texts().values()])
        self.assertEqual(methods & PYTHONS_OWN - METHODS - TWO_UNDERSCORES - {"add", "discard"}, set())
        self.assertEqual(values & (PYTHONS_OWN | {"args"}) - OWN_VALUES, set())

    def test_names_are_drawn_from_the_file_that_defines_them(self):
        texts = package_texts()
        for text in texts.values():
            for row in [node for node in ast.parse(text).body if isinstance(node, ast.ImportFrom)]:
                source = ast.parse(texts[row.module.rpartition(".")[2] + ".py"])
                defined = [node.name for node in source.body if isinstance(node, (ast.FunctionDef, ast.ClassDef))]
                defined += [node.targets[0].id for node in source.body if isinstance(node, ast.Assign)]
                for alias in row.names:
                    self.assertIn(alias.name, defined)

    def test_no_two_files_draw_from_one_another(self):
        drawn = drawn_from(package_texts())
        while drawn:
            free = [name for name in drawn if not any(source in drawn for source in drawn[name])]
            self.assertNotEqual(free, [], drawn)
            for name in free:
                drawn.pop(name)


class TheLookItself(unittest.TestCase):

    def test_each_fault_is_seen(self):
        faults = [
            ("import sys\n", "L3"), ("from os import path\n", "L2"), ("from .errors import NoHouse\n", "L2"),
            ("print(1)\n", "L3"), ("A = len([])\n", "L3"), ("A = 1\nA = 2\n", "L15"),
            ("def f(*xs):\n    return xs\n", "L4"), ("class A:\n    b = 1\n", "L5"),
            ("class A:\n    def __hash__(self):\n        return 1\n", "L5"),
            ("class A:\n    def f(self):\n        return 1\n\n    def f(self):\n        return 2\n", "L18"),
            ("def f():\n    assert True\n", "L6"), ("def f(a):\n    a = b = 1\n", "L6"),
            ("def f():\n    for a in []:\n        pass\n    else:\n        pass\n", "L6"),
            ("def f():\n    'a text by itself'\n", "L6"),
            ("def f(a):\n    return a / 2\n", "L7"), ("def f(a):\n    return {b for b in a}\n", "L7"),
            ("def f(a):\n    return [b for c in a for b in c]\n", "L7"), ("def f(a):\n    return 0.5\n", "L7"),
            ("def f(a):\n    return f'{a:3}'\n", "L7"), ("def f(a):\n    return hash(a)\n", "L8"),
            ("def f():\n" + "    pass\n" * 40, "L10"), ("# " + "a" * 119 + "\n", "L10"),
            ("def _f():\n    pass\n", "L12"), ("# \u00e4\n", "L14"), ("\t# a\n", "L14"),
            ("def f(min):\n    pass\n", "L15"), ("# the type of it\n", "L17"), ("def f(a):\n    a.mro()\n", "L17"),
            ("def f():\n    try:\n        f()\n    except Exception:\n        pass\n", "L19"),
            ("def f():\n    try:\n        f()\n    except:\n        pass\n", "L19"),
            ("def f(a):\n    raise a\n", "L19"), ("def f(a, b):\n    return a is b\n", "L20"),
            ("def f(a: int):\n    pass\n", "L21"), ("def f():\n    return len\n", "L22"),
            ("def f(a):\n    b = zip(a, a)\n    return b\n", "L23"), ("def f(a):\n    return a.items()\n", "L23"),
            ("def f(a):\n    b = set(a)\n    return b\n", "L24"), ("def f(a):\n    return 2 ** a\n", "L27"),
            ("A = '%'\n", "L27"),
        ]
        for text, rule in faults:
            with self.subTest(text=text):
                self.assertIn(rule, file_faults(text))

    def test_what_keeps_the_form_is_let_through(self):
        text = ("\"\"\"A file.\"\"\"\n\nfrom heraldways.errors import NoHouse\n\nMOST = 3\n\n\n"
                "def f(a, b=1):\n    if a is None or len(set(a) & set([b])) == 0:\n        raise NoHouse('none')\n"
                "    return [c for c in range(MOST) if c != b]\n")
        self.assertEqual(file_faults(text), [])


if __name__ == "__main__":
    unittest.main()
