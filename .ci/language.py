"""Holds the package against the rules of LANGUAGE.md that can be seen in its code.

It names the rule and the line of what is surely amiss. What it is silent on may
still be amiss: the rules on walks (L23), on what a file's top keeps (L15), on sets
(L24) and on tries (L19) are seen here in part alone.
"""

import ast
import builtins
import pathlib
import re
import sys

METHODS = set("""append clear copy count endswith extend find get index insert isalnum isalpha isdigit islower
    isspace isupper items join keys ljust lower lstrip partition pop remove replace reverse rfind rjust rpartition
    rsplit rstrip setdefault split splitlines startswith strip update upper values zfill bit_length""".split())
ERRORS = set("""Exception ValueError TypeError KeyError IndexError LookupError ZeroDivisionError ArithmeticError
    OverflowError RuntimeError NotImplementedError AttributeError StopIteration""".split())
OWN_NAMES = ERRORS | set("""len range enumerate zip min max sum abs sorted reversed int str bool list tuple dict set
    frozenset isinstance ord repr any all divmod""".split())
DUNDERS = {"__init__", "__eq__", "__repr__", "__str__", "__len__"}
UNUSED = set("""register mro elements open input version_info with_traceback add_note format format_map
    attrgetter breakpoint builtins compile copyright credits delattr dir eval exec exit gc getattr globals hasattr
    help id importlib license locals methodcaller os quit setattr super type vars""".split())
UNUSED_VALUES = set("""items keys values pop update append clear extend insert remove reverse setdefault sort args
    encode format register mro elements open input""".split())
WORDS = re.compile(r"\b(type|typing|typing_extensions|enum|Enum|IntEnum|StrEnum|Flag|IntFlag|Generic|Protocol|ABC"
                   r"|ABCMeta|namedtuple|NamedTuple|TypedDict|TYPE_CHECKING|abstractmethod)\b"
                   r"|dataclass|overload|contextmanager")
WALKED = {"zip", "enumerate", "reversed", "range", "items", "keys", "values"}
WALKERS = {"list", "tuple", "dict", "sorted", "sum", "any", "all", "enumerate", "zip", "min", "max", "join"}
STATEMENTS = (ast.Assign, ast.AugAssign, ast.AnnAssign, ast.If, ast.While, ast.For, ast.Return, ast.Break,
              ast.Continue, ast.Pass, ast.Raise, ast.Try, ast.Expr, ast.FunctionDef, ast.ClassDef, ast.ImportFrom,
              ast.Import)
EXPRESSIONS = (ast.Constant, ast.Name, ast.List, ast.Tuple, ast.Dict, ast.Set, ast.BinOp, ast.UnaryOp, ast.BoolOp,
               ast.Compare, ast.IfExp, ast.Call, ast.Attribute, ast.Subscript, ast.Slice, ast.ListComp,
               ast.JoinedStr, ast.FormattedValue, ast.Lambda)
PLAIN_FILE = re.compile(r"([a-z][a-z0-9_]*|__init__|__main__)\.py")
PLAIN_NAME = re.compile(r"[A-Za-z][A-Za-z0-9_]*")


class Checker:
    def __init__(self, package):
        self.package = package
        self.faults = []
        self.trees = {}
        self.file = ""
        self.own_methods = set()

    def fault(self, rule, line, words):
        self.faults.append(f"{self.file}:{line}: {rule}: {words}")

    def run(self):
        for path in sorted(self.package.iterdir()):
            if path.name != "__pycache__":
                self.file = str(path)
                self.check_file(path)
        self.own_methods = {item.name for tree in self.trees.values() for node in tree.body
                            if isinstance(node, ast.ClassDef) for item in node.body
                            if isinstance(item, ast.FunctionDef)}
        for name, tree in self.trees.items():
            self.file = str(self.package / f"{name}.py")
            self.check_top(name, tree)
            self.check_nodes(tree)
        self.check_circles()
        return self.faults

    def check_file(self, path):
        if not path.is_file() or not PLAIN_FILE.fullmatch(path.name):
            self.fault("L1", 0, "no plain file")
            return
        text = path.read_text(encoding="utf-8")
        lines = text.split("\n")
        if len(lines) > 401:
            self.fault("L10", len(lines), "more than 400 lines")
        for number, line in enumerate(lines, 1):
            if len(line) > 120:
                self.fault("L10", number, "more than 120 characters")
            if not all(" " <= sign <= "~" for sign in line):
                self.fault("L14", number, "a sign that is not from the blank to ~")
            if WORDS.search(line):
                self.fault("L17", number, "a word that stands nowhere")
        self.trees[path.stem] = ast.parse(text)

    def check_top(self, name, tree):
        bound = []
        for number, node in enumerate(tree.body):
            if isinstance(node, (ast.FunctionDef, ast.ClassDef)):
                bound.append((node.name, node.lineno))
            elif isinstance(node, (ast.ImportFrom, ast.Import)):
                self.check_import(name, node)
                bound.extend((alias.asname or alias.name, node.lineno) for alias in node.names)
            elif isinstance(node, ast.Assign):
                self.check_plain(node.value)
                bound.extend((target.id, node.lineno) for target in node.targets if isinstance(target, ast.Name))
            elif not (number == 0 and ast.get_docstring(tree) is not None) and name != "__main__":
                self.fault("L3", node.lineno, "does not stand at a file's top")
        seen = set()
        for word, line in bound:
            if word in seen:
                self.fault("L15", line, f"{word} is bound twice")
            seen.add(word)
        self.check_locals(tree, {node.name for node in tree.body if isinstance(node, ast.ClassDef)} | {
            alias.name for node in tree.body if isinstance(node, ast.ImportFrom) for alias in node.names})

    def check_plain(self, value):
        for node in ast.walk(value):
            if not isinstance(node, (ast.Constant, ast.List, ast.Tuple, ast.Dict, ast.Name, ast.UnaryOp, ast.USub,
                                     ast.Load)):
                self.fault("L3", value.lineno, "no plain value")
            if node is not value and isinstance(node, (ast.List, ast.Dict)):
                self.fault("L15", value.lineno, "a list or dict within one of a file's top")

    def check_import(self, name, node):
        if isinstance(node, ast.Import):
            if name != "__main__" or [alias.name for alias in node.names] != ["sys"]:
                self.fault("L16", node.lineno, "import")
            return
        if node.module == "__future__":
            return
        parts = (node.module or "").split(".")
        if node.level or len(parts) != 2 or parts[0] != self.package.name or parts[1] not in self.trees:
            self.fault("L2", node.lineno, "not from a module of the package")
            return
        tops = {item.name for item in self.trees[parts[1]].body if isinstance(item, (ast.FunctionDef, ast.ClassDef))}
        tops |= {target.id for item in self.trees[parts[1]].body if isinstance(item, ast.Assign)
                 for target in item.targets if isinstance(target, ast.Name)}
        for alias in node.names:
            if alias.name not in tops:
                self.fault("L16", node.lineno, f"{alias.name} is not defined there")

    def check_locals(self, tree, taken):
        for node in ast.walk(tree):
            word = None
            if isinstance(node, ast.arg):
                word = node.arg
            elif isinstance(node, ast.Name) and isinstance(node.ctx, ast.Store):
                word = node.id
            if word is not None and (word in taken or hasattr(builtins, word)):
                self.fault("L15", node.lineno, f"{word} is called like something else")

    def check_circles(self):
        draws = {name: {node.module.split(".")[-1] for node in tree.body
                        if isinstance(node, ast.ImportFrom) and node.module != "__future__"}
                 for name, tree in self.trees.items()}
        for name in draws:
            reached = set()
            waiting = list(draws[name])
            while waiting:
                other = waiting.pop()
                if other not in reached:
                    reached.add(other)
                    waiting.extend(draws.get(other, ()))
            if name in reached:
                self.file = name
                self.fault("L16", 0, "draws from itself")

    def check_nodes(self, tree):
        parents = {child: node for node in ast.walk(tree) for child in ast.iter_child_nodes(node)}
        for node in ast.walk(tree):
            if isinstance(node, ast.stmt) and not isinstance(node, STATEMENTS):
                self.fault("L6", node.lineno, type(node).__name__)
            if isinstance(node, ast.expr) and not isinstance(node, EXPRESSIONS):
                self.fault("L7", node.lineno, type(node).__name__)
            check = getattr(self, "see_" + type(node).__name__.lower(), None)
            if check is not None:
                check(node, parents.get(node))

    def plain_name(self, word, line):
        if not PLAIN_NAME.fullmatch(word):
            self.fault("L12", line, word)

    def see_importfrom(self, node, parent):
        if not isinstance(parent, ast.Module):
            self.fault("L2", node.lineno, "an import that is not at a file's top")

    see_import = see_importfrom

    def see_functiondef(self, node, parent):
        if node.decorator_list:
            self.fault("L4", node.lineno, "a decorator")
        if node.end_lineno - node.lineno + 1 > 40:
            self.fault("L10", node.lineno, "more than 40 lines")
        if not (isinstance(parent, ast.ClassDef) and node.name in DUNDERS):
            self.plain_name(node.name, node.lineno)
        if node.name in UNUSED:
            self.fault("L17", node.lineno, node.name)

    def see_arguments(self, node, parent):
        if node.vararg or node.kwarg or node.kwonlyargs or node.posonlyargs:
            self.fault("L4", parent.lineno, "no plain parameters")
        for default in node.defaults:
            if not isinstance(default, ast.Constant):
                self.fault("L4", parent.lineno, "no plain default")

    def see_arg(self, node, parent):
        self.plain_name(node.arg, node.lineno)

    def see_classdef(self, node, parent):
        if not isinstance(parent, ast.Module):
            self.fault("L15", node.lineno, "a class that is not at a file's top")
        if node.decorator_list or node.keywords or len(node.bases) > 1:
            self.fault("L5", node.lineno, "no plain class")
        methods = [item.name for item in node.body if isinstance(item, ast.FunctionDef)]
        others = [item for item in node.body if not isinstance(item, (ast.FunctionDef, ast.Pass))]
        if len(others) > (ast.get_docstring(node) is not None):
            self.fault("L5", node.lineno, "a value in the class body")
        if len(set(methods)) < len(methods):
            self.fault("L18", node.lineno, "a method that stands twice")

    def see_assign(self, node, parent):
        if len(node.targets) != 1:
            self.fault("L6", node.lineno, "more than one target")
        for target in node.targets:
            if isinstance(target, ast.Attribute) and (
                    target.attr in UNUSED_VALUES or target.attr in self.own_methods):
                self.fault("L18, L26", node.lineno, target.attr)

    def see_for(self, node, parent):
        if node.orelse:
            self.fault("L6", node.lineno, "else behind a loop")

    see_while = see_for

    def see_try(self, node, parent):
        if node.finalbody:
            self.fault("L6", node.lineno, "finally")

    def see_excepthandler(self, node, parent):
        caught = node.type.elts if isinstance(node.type, ast.Tuple) else [node.type]
        for error in caught:
            if not isinstance(error, ast.Name) or error.id in ("Exception", "TypeError"):
                self.fault("L19", node.lineno, "except")

    def see_raise(self, node, parent):
        if not isinstance(node.exc, ast.Call):
            self.fault("L19", node.lineno, "an error that is not made on the spot")

    def see_expr(self, node, parent):
        text = isinstance(node.value, ast.Constant) and isinstance(node.value.value, str)
        if not text and not isinstance(node.value, ast.Call):
            self.fault("L6", node.lineno, "neither a call nor a docstring")

    def see_name(self, node, parent):
        self.plain_name(node.id, node.lineno)
        main = self.file.endswith("__main__.py")
        if main and node.id in ("print", "sys", "__name__"):
            return
        if node.id in UNUSED or (hasattr(builtins, node.id) and node.id not in OWN_NAMES):
            self.fault("L8, L17", node.lineno, node.id)

    def see_attribute(self, node, parent):
        if node.attr in UNUSED:
            self.fault("L17", node.lineno, node.attr)
        if not PLAIN_NAME.fullmatch(node.attr) and node.attr not in DUNDERS:
            self.fault("L12", node.lineno, node.attr)

    def see_call(self, node, parent):
        if isinstance(node.func, ast.Attribute):
            if node.func.attr not in METHODS | self.own_methods | DUNDERS:
                self.fault("L25", node.lineno, node.func.attr)
            word = node.func.attr
        else:
            word = node.func.id if isinstance(node.func, ast.Name) else ""
        for keyword in node.keywords:
            if keyword.arg is None:
                self.fault("L7", node.lineno, "a star")
        if word in WALKED and not self.is_walked(node, parent):
            self.fault("L23", node.lineno, f"{word} is not walked on the spot")

    def is_walked(self, node, parent):
        if isinstance(parent, (ast.For, ast.comprehension)):
            return parent.iter is node
        if not isinstance(parent, ast.Call):
            return False
        word = parent.func.attr if isinstance(parent.func, ast.Attribute) else getattr(parent.func, "id", "")
        return word in WALKERS and (parent.args[0] is node or word in ("zip", "enumerate"))

    def see_listcomp(self, node, parent):
        if len(node.generators) != 1 or len(node.generators[0].ifs) > 1:
            self.fault("L7", node.lineno, "more than one for, or more than one if")

    def see_compare(self, node, parent):
        for operator, right in zip(node.ops, node.comparators):
            if isinstance(operator, (ast.Is, ast.IsNot)) and not (
                    isinstance(right, ast.Constant) and (right.value is None or isinstance(right.value, bool))):
                self.fault("L20", node.lineno, "is")

    def see_binop(self, node, parent):
        if isinstance(node.op, (ast.Div, ast.MatMult)):
            self.fault("L7", node.lineno, "/ or @")
        if isinstance(node.op, ast.Pow) and not (
                isinstance(node.right, ast.Constant) and node.right.value in range(65)):
            self.fault("L27", node.lineno, "an exponent that is not written")

    def see_augassign(self, node, parent):
        if isinstance(node.op, (ast.Div, ast.MatMult, ast.Pow)):
            self.fault("L7", node.lineno, "/=, @= or **=")

    def see_constant(self, node, parent):
        if isinstance(node.value, (float, complex, bytes)) or node.value is ...:
            self.fault("L7", node.lineno, "no whole number and no text")
        if isinstance(node.value, str) and "%" in node.value:
            self.fault("L27", node.lineno, "the sign of a remainder within a text")

    def see_formattedvalue(self, node, parent):
        if not isinstance(node.value, ast.Name) or node.format_spec is not None or node.conversion not in (-1, 114):
            self.fault("L7", node.lineno, "more than a name within braces")


def main():
    faults = Checker(pathlib.Path(sys.argv[1])).run()
    for fault in faults:
        print(fault)
    print(f"language: {len(faults)} faults")
    return 1 if faults else 0


if __name__ == "__main__":
    sys.exit(main())
