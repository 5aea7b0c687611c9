"""Holds the package's files against a part of the rules of LANGUAGE.md."""
import ast
import builtins
import pathlib
import re
import unittest

PACKAGE = pathlib.Path(__file__).resolve().parent.parent / "farshelf"

NODES = """
Module FunctionDef ClassDef Return Assign AugAssign For While If Raise Try ImportFrom Expr Pass Break Continue
BoolOp BinOp UnaryOp Lambda IfExp Dict Set ListComp Compare Call FormattedValue JoinedStr Constant Attribute
Subscript Name List Tuple Slice Load Store And Or Add Sub Mult Mod Pow LShift RShift BitOr BitXor BitAnd FloorDiv
Invert Not UAdd USub Eq NotEq Lt LtE Gt GtE Is IsNot In NotIn comprehension ExceptHandler arguments arg keyword alias
""".split()

OWN_NAMES = """
len range enumerate zip min max sum abs sorted reversed int str bool list tuple dict set frozenset isinstance ord
repr any all divmod Exception ValueError TypeError KeyError IndexError LookupError ZeroDivisionError ArithmeticError
OverflowError RuntimeError NotImplementedError AttributeError StopIteration
""".split()

TWO_UNDERSCORES = "__init__ __eq__ __repr__ __str__ __len__".split()

WORDS = """
type typing typing_extensions enum Enum IntEnum StrEnum Flag IntFlag Generic Protocol ABC ABCMeta namedtuple
NamedTuple TypedDict TYPE_CHECKING abstractmethod
""".split()

NOT_USED = """
register mro elements open input version_info with_traceback add_note format format_map
""".split()

METHODS = """
append clear copy count endswith extend find get index insert isalnum isalpha isdigit islower isspace isupper items
join keys ljust lower lstrip partition pop remove replace reverse rfind rjust rpartition rsplit rstrip setdefault
split splitlines startswith strip update upper values zfill bit_length
""".split()


def text_faults(text):
    faults = []
    for place, line in enumerate(text.split("\n"), start=1):
        if len(line) > 120:
            faults.append(("L10", place))
        if any(not " " <= sign <= "~" for sign in line):
            faults.append(("L14", place))
        if any(word in WORDS for word in re.findall(r"\w+", line)):
            faults.append(("L17", place))
        if re.search("dataclass|overload|contextmanager", line):
            faults.append(("L17", place))
    if len(text.splitlines()) > 400:
        faults.append(("L10", 400))
    return faults


def plain(name):
    return name in TWO_UNDERSCORES or re.fullmatch("[A-Za-z][A-Za-z0-9_]*", name) is not None


def bound_and_read(node):
    """The names that a node of the tree binds, and those that it reads."""
    if isinstance(node, (ast.FunctionDef, ast.ClassDef)):
        return [node.name], []
    if isinstance(node, ast.arg):
        return [node.arg], []
    if isinstance(node, ast.alias):
        return [node.asname or node.name], []
    if isinstance(node, ast.ExceptHandler) and node.name:
        return [node.name], []
    if isinstance(node, ast.Name):
        return ([], [node.id]) if isinstance(node.ctx, ast.Load) else ([node.id], [])
    return [], []


def node_faults(node):
    if type(node).__name__ not in NODES:
        return ["L6 L7"]
    faults = []
    if isinstance(node, ast.FunctionDef):
        rest = node.args.vararg or node.args.kwarg or node.args.kwonlyargs or node.args.posonlyargs
        if rest or node.decorator_list:
            faults.append("L4")
        if node.end_lineno - node.lineno >= 40:
            faults.append("L10")
    if isinstance(node, ast.ClassDef):
        if node.decorator_list or node.keywords or len(node.bases) > 1:
            faults.append("L5")
        if not all(isinstance(part, (ast.FunctionDef, ast.Pass)) for part in node.body):
            faults.append("L5")
    if isinstance(node, ast.ImportFrom):
        if node.level or not node.module.startswith("farshelf.") or node.names[0].name == "*":
            faults.append("L2")
    if isinstance(node, ast.Assign) and len(node.targets) != 1:
        faults.append("L6")
    if isinstance(node, (ast.For, ast.While)) and node.orelse or isinstance(node, ast.Try) and node.finalbody:
        faults.append("L6")
    if isinstance(node, ast.Constant) and isinstance(node.value, (float, complex, bytes)):
        faults.append("L7")
    if isinstance(node, ast.ListComp) and (len(node.generators) > 1 or len(node.generators[0].ifs) > 1):
        faults.append("L7")
    if isinstance(node, ast.Attribute) and (node.attr in NOT_USED or not plain(node.attr)):
        faults.append("L17")
    return faults


def tree_faults(tree):
    faults = []
    bound = []
    read = []
    methods = [part for node in ast.walk(tree) if isinstance(node, ast.ClassDef) for part in node.body]
    for node in ast.walk(tree):
        place = getattr(node, "lineno", 0)
        faults += [(rule, place) for rule in node_faults(node)]
        made, asked = bound_and_read(node)
        faults += [("L12", place) for name in made + asked if not plain(name)]
        faults += [("L17", place) for name in made if name in NOT_USED]
        faults += [("L15", place) for name in made if name in vars(builtins) and node not in methods]
        bound += made
        read += [(name, place) for name in asked]
    faults += [("L8", place) for name, place in read if name not in bound + OWN_NAMES]
    for node in tree.body:
        if not isinstance(node, (ast.ImportFrom, ast.FunctionDef, ast.ClassDef, ast.Assign, ast.Expr)):
            faults.append(("L3", node.lineno))
        if isinstance(node, ast.Expr) and node != tree.body[0]:
            faults.append(("L3", node.lineno))
    return faults


def faults_of(text):
    return text_faults(text) + tree_faults(ast.parse(text))


def top_names(tree):
    names = [node.name for node in tree.body if isinstance(node, (ast.FunctionDef, ast.ClassDef))]
    return names + [node.targets[0].id for node in tree.body if isinstance(node, ast.Assign)]


def imports(tree):
    return [(node.module, alias.name) for node in tree.body if isinstance(node, ast.ImportFrom) for alias in node.names]


def drawn_from(trees, name):
    """All the files from which one draws, in whatever many steps."""
    found = []
    ahead = [name]
    while ahead:
        for module, imported in imports(trees[ahead.pop()]):
            if module not in found:
                found.append(module)
                ahead.append(module)
    return found


def import_faults(trees):
    faults = []
    for name, tree in trees.items():
        for module, imported in imports(tree):
            if module not in trees or imported not in top_names(trees[module]):
                faults.append(("L16", name, imported))
        if name in drawn_from(trees, name):
            faults.append(("L16", name, name))
    return faults


def local_faults(name, tree):
    """Parameters and locals called like a class or an import of their file."""
    taken = [imported for module, imported in imports(tree)]
    taken += [node.name for node in tree.body if isinstance(node, ast.ClassDef)]
    bound = [node.arg for node in ast.walk(tree) if isinstance(node, ast.arg)]
    bound += [node.id for node in ast.walk(tree) if isinstance(node, ast.Name) and isinstance(node.ctx, ast.Store)]
    return [("L15", name, local) for local in bound if local in taken]


def set_faults(name, tree):
    """Sets that do not stand straight within sorted or len, or beside in or ==."""
    good = []
    for node in ast.walk(tree):
        if isinstance(node, ast.Call) and isinstance(node.func, ast.Name) and node.func.id in ("sorted", "len"):
            good += node.args
        if isinstance(node, ast.Compare):
            good += [node.left] + node.comparators
    sets = [node for node in ast.walk(tree) if isinstance(node, ast.Call) and isinstance(node.func, ast.Name)
            and node.func.id in ("set", "frozenset")]
    return [("L24", name, node.lineno) for node in sets if node not in good]


def member_faults(trees):
    """Names that are a method in one class and a value in another, and calls of methods that are not listed."""
    faults = []
    walked = [node for tree in trees.values() for node in ast.walk(tree)]
    methods = [part.name for node in walked if isinstance(node, ast.ClassDef) for part in node.body
               if isinstance(part, ast.FunctionDef)]
    called = [node.func.attr for node in walked if isinstance(node, ast.Call) and isinstance(node.func, ast.Attribute)]
    values = [node.attr for node in walked if isinstance(node, ast.Attribute) and isinstance(node.ctx, ast.Store)]
    faults += [("L18", name) for name in values if name in methods]
    faults += [("L25", name) for name in called if name not in methods + METHODS]
    own = [name for kind in (str, int, list, dict, set, bytes, tuple) for name in dir(kind)]
    faults += [("L26", name) for name in values if name in own]
    faults += [("L26", name) for name in methods if name in own and name not in METHODS + TWO_UNDERSCORES
               + ["add", "discard"]]
    return faults


WALKED = "zip enumerate reversed range".split()
WALKED_METHODS = "items keys values".split()
WALKERS = "list tuple dict sorted sum any all enumerate zip min max".split()
KEYWORDS = {"sorted": ("key", "reverse"), "min": ("key", "default"), "max": ("key", "default"), "sum": ("start",),
            "enumerate": ("start",), "zip": ("strict",)}


def is_call_of(node, names):
    return isinstance(node, ast.Call) and isinstance(node.func, ast.Name) and node.func.id in names


def is_walked_view(node):
    if is_call_of(node, WALKED):
        return True
    return isinstance(node, ast.Call) and isinstance(node.func, ast.Attribute) and node.func.attr in WALKED_METHODS


def walk_faults(name, tree):
    """Views that are kept or handed on, and loops that change what they walk by its plain name."""
    good = []
    faults = []
    for node in ast.walk(tree):
        if isinstance(node, (ast.For, ast.comprehension)):
            good.append(node.iter)
        if is_call_of(node, WALKERS):
            good += node.args[:1] if node.func.id != "zip" else node.args
        if isinstance(node, ast.For):
            walked = ast.unparse(node.iter)
            changes = [part for part in ast.walk(node) if isinstance(part, ast.Call)
                       and isinstance(part.func, ast.Attribute) and ast.unparse(part.func.value) == walked
                       and part.func.attr in "append clear extend insert pop remove reverse setdefault update".split()]
            faults += [("L23", name, part.lineno) for part in changes]
    return faults + [("L23", name, node.lineno) for node in ast.walk(tree) if is_walked_view(node) and node not in good]


def form_faults(name, tree):
    """f-strings of more than plain names, is beside other things, keywords, handlers, top values that are handed on."""
    faults = []
    tops = [node.targets[0].id for node in tree.body
            if isinstance(node, ast.Assign) and isinstance(node.value, (ast.List, ast.Dict))]
    good = []
    for node in ast.walk(tree):
        if isinstance(node, ast.FormattedValue) and (not isinstance(node.value, ast.Name) or node.format_spec):
            faults.append(("L7", name, node.lineno))
        if isinstance(node, ast.Compare) and any(isinstance(op, (ast.Is, ast.IsNot)) for op in node.ops):
            if not isinstance(node.comparators[0], ast.Constant) or node.comparators[0].value not in (None, True, False):
                faults.append(("L20", name, node.lineno))
        if isinstance(node, ast.Call) and node.keywords:
            allowed = KEYWORDS.get(node.func.id, ()) if isinstance(node.func, ast.Name) else ()
            faults += [("L22", name, node.lineno) for keyword in node.keywords if keyword.arg not in allowed]
        if isinstance(node, ast.ExceptHandler):
            if node.type is None or ast.unparse(node.type) in ("Exception", "TypeError", "AttributeError"):
                faults.append(("L19", name, node.lineno))
        if isinstance(node, ast.Subscript):
            good.append(node.value)
        if isinstance(node, (ast.For, ast.comprehension)):
            good.append(node.iter)
        if isinstance(node, ast.Compare):
            good += node.comparators
        if is_call_of(node, ("len", "list", "dict")):
            good += node.args
    read = [node for node in ast.walk(tree) if isinstance(node, ast.Name) and isinstance(node.ctx, ast.Load)]
    return faults + [("L15", name, node.lineno) for node in read if node.id in tops and node not in good]


def package_faults(texts):
    """texts: by the full name of each file what stands in it."""
    trees = {name: ast.parse(text) for name, text in texts.items()}
    faults = import_faults(trees) + member_faults(trees)
    for name, tree in trees.items():
        faults += local_faults(name, tree) + set_faults(name, tree) + walk_faults(name, tree) + form_faults(name, tree)
    return faults


class Language(unittest.TestCase):
    def test_files(self):
        files = [file for file in PACKAGE.iterdir() if file.name != "__pycache__"]
        self.assertIn("__init__.py", [file.name for file in files])
        for file in files:
            self.assertRegex(file.name, r"\A(__init__|[a-z][a-z0-9_]*)\.py\Z")

    def test_each_file(self):
        for file in sorted(PACKAGE.glob("*.py")):
            with self.subTest(file=file.name):
                self.assertEqual(faults_of(file.read_text(encoding="utf-8")), [])

    def test_all_together(self):
        texts = {"farshelf." + file.stem: file.read_text(encoding="utf-8") for file in PACKAGE.glob("*.py")}
        self.assertEqual(package_faults(texts), [])

    def test_faults_of_the_whole_are_found(self):
        one = "def f(x):\n    return x\n"
        for texts in ({"farshelf.a": "from farshelf.b import f\n", "farshelf.b": "from farshelf.a import f\n"},
                      {"farshelf.a": one, "farshelf.b": "from farshelf.a import f\n",
                       "farshelf.c": "from farshelf.b import f\n"},
                      {"farshelf.a": one, "farshelf.b": "from farshelf.a import f\ndef g(f):\n    return f\n"},
                      {"farshelf.a": "class A:\n    def go(self):\n        self.gone = 1\n",
                       "farshelf.b": "class B:\n    def gone(self):\n        return 1\n"},
                      {"farshelf.a": "def f(xs):\n    xs.sort()\n"},
                      {"farshelf.a": "class A:\n    def go(self):\n        self.sort = 1\n"},
                      {"farshelf.a": "def f(xs):\n    return set(xs)\n"},
                      {"farshelf.a": "def f(xs):\n    ys = xs.items()\n    return list(ys)\n"},
                      {"farshelf.a": "def f(xs):\n    return enumerate(xs)\n"},
                      {"farshelf.a": "def f(xs):\n    for x in xs:\n        xs.pop(x)\n"},
                      {"farshelf.a": "def f(x):\n    return f\"{x.y}\"\n"},
                      {"farshelf.a": "def f(x, y):\n    return x is y\n"},
                      {"farshelf.a": "def f(x):\n    return x.split(sep=1)\n"},
                      {"farshelf.a": "def f(x):\n    try:\n        return x[0]\n    except Exception:\n        return x\n"},
                      {"farshelf.a": "X = [1]\ndef f():\n    return X\n"},
                      {"farshelf.a": "X = {1: 2}\ndef f(g):\n    return g(X)\n"}):
            with self.subTest(texts=texts):
                self.assertNotEqual(package_faults(texts), [])
        self.assertEqual(package_faults({"farshelf.a": one, "farshelf.b": "from farshelf.a import f\n"}), [])

    def test_faults_are_found(self):
        for text in ("x = 1.5\n", "def f():\n    with f: pass\n", "import re\n", "from re import sub\n",
                     "def f(*xs):\n    return xs\n", "def f(x):\n    return x / 2\n", "x = y = 1\n",
                     "def f(x):\n    return print(x)\n", "def f(list):\n    return list\n", "f_x = 1\n_x = 1\n",
                     "# a \u00e4\n", "# the type\n", "x = 1\t\n", "x = 1" + " " * 120 + "\n", "x = 1\n" * 401,
                     "class A:\n    x = 1\n", "def f():\n" + "    pass\n" * 40, "def f(x):\n    return x.format(1)\n",
                     "def f(xs):\n    return all(x for x in xs)\n", "for x in (1, 2):\n    pass\n"):
            with self.subTest(text=text):
                self.assertNotEqual(faults_of(text), [])


if __name__ == "__main__":
    unittest.main()
