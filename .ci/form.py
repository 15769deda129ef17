"""Checks what a small script can check of the rules of the Python subset.

Use: python3 .ci/form.py FOLDER, where FOLDER is the package. Each breach is
printed as a row `file:line: rule: what`; the exit status is 1 if there is one.
The script asks a little more than the rules where that is simpler (no
generator expressions, no `global`, no `async`, no sort in place).
"""

import ast
import builtins
import io
import re
import sys
import tokenize
from pathlib import Path

MOST_FILES, MOST_LINES, MOST_FUNCTION_LINES, MOST_COLUMNS = 100, 399, 40, 120
NAME = re.compile(r"_?[A-Za-z][A-Za-z0-9_]*|_")
FILE_NAME = re.compile(r"([a-z][a-z0-9_]*|__init__|__main__)\.py")
FOLDER_NAME = re.compile(r"[a-z][a-z0-9_]*")

USABLE = set(
    "len range enumerate zip min max sum abs sorted reversed int str bool list tuple dict set isinstance ord repr any "
    "all divmod iter next getattr hasattr setattr type super property staticmethod classmethod Exception ValueError "
    "TypeError KeyError IndexError LookupError ZeroDivisionError ArithmeticError OverflowError RuntimeError "
    "NotImplementedError AttributeError StopIteration NotImplemented".split()
)
NOWHERE = set("mro elements open input law version_info with_traceback add_note register".split())
FRAME_NAME = re.compile(r"(f|tb|co|gi|cr)_[a-z]+")
NEVER_BOUND = set(
    "attrgetter breakpoint builtins compile copyright credits delattr dir eval exec exit gc getattr globals hasattr "
    "help id importlib license locals methodcaller os quit setattr super type vars sys".split()
)
BARRED_WORDS = set(
    "type typing typing_extensions enum Enum IntEnum StrEnum Flag IntFlag Generic Protocol ABC ABCMeta namedtuple "
    "NamedTuple TypedDict TYPE_CHECKING abstractmethod".split()
)
BARRED_PARTS = ("dataclass", "overload", "contextmanager", "Meta", "metaclass=", "(type)", "_wall", "_WallAttr")
BARRED_FILES = BARRED_WORDS | set("test tests testing site conftest sitecustomize usercustomize".split())
SPECIAL = set(
    "__init__ __eq__ __repr__ __str__ __len__ __enter__ __exit__ __call__ __iter__ __lt__ __le__ __gt__ __ge__ __ne__ "
    "__add__ __sub__ __mul__ __floordiv__ __mod__ __pow__ __and__ __or__ __xor__ __lshift__ __rshift__ __radd__ "
    "__rsub__ __rmul__ __rfloordiv__ __rmod__ __rand__ __ror__ __rxor__ __rlshift__ __rrshift__ __iadd__ __isub__ "
    "__imul__ __ifloordiv__ __imod__ __ipow__ __iand__ __ior__ __ixor__ __ilshift__ __irshift__ __neg__ __pos__ "
    "__invert__ __abs__ __bool__ __contains__ __getitem__ __setitem__".split()
)
METHODS = set(
    "append clear copy count endswith extend find get index insert isalnum isalpha isdigit islower isspace isupper "
    "items join keys ljust lower lstrip partition pop remove replace reverse rfind rjust rpartition rsplit rstrip "
    "setdefault split splitlines startswith strip update upper values zfill bit_length add discard title capitalize "
    "swapcase casefold center expandtabs removeprefix removesuffix rindex isascii isdecimal isnumeric istitle "
    "isidentifier isprintable".split()
)
ON_THE_SPOT = set("zip enumerate reversed range".split())
VIEWS = set("items keys values".split())
TAKERS = set("list tuple dict sorted sum any all enumerate zip min max join reversed len".split())
MODIFIERS = set("append clear extend insert pop remove reverse setdefault update add discard".split())
CATCHABLE = set("KeyError ZeroDivisionError StopIteration".split())
FUNCTIONS = (ast.FunctionDef, ast.Lambda)
COMPREHENSIONS = (ast.ListComp, ast.DictComp, ast.SetComp)


def roots(node):
    """Return the names and attributes whose lists an expression gives, or gives items of."""
    if isinstance(node, (ast.Name, ast.Attribute)):
        return [ast.unparse(node)]
    if isinstance(node, ast.Subscript):
        return roots(node.value)
    if isinstance(node, ast.IfExp):
        return roots(node.body) + roots(node.orelse)
    if isinstance(node, ast.BoolOp):
        return [text for value in node.values for text in roots(value)]
    if isinstance(node, ast.Call) and isinstance(node.func, ast.Attribute) and node.func.attr in VIEWS:
        return roots(node.func.value)
    if isinstance(node, ast.Call) and getattr(node.func, "id", "") in ON_THE_SPOT:
        return [text for value in node.args for text in roots(value)]
    return []


def alias_classes(function):
    """Return for each name or attribute one that stands for all that may be the same list."""
    kin = {}
    for node in ast.walk(function):
        if not isinstance(node, ast.Assign):
            continue
        for target in node.targets:
            for left, right in paired(target, node.value):
                # A slice is a new list, and an item of a list is not the list itself.
                for text in roots(right) if not isinstance(right, ast.Subscript) else []:
                    one, other = kin.get(left, left), kin.get(text, text)
                    kin.update({key: one for key in list(kin) + [text, other] if kin.get(key, key) == other})
    return kin


def paired(target, value):
    """Return pairs of an assigned name or attribute and the expression that is assigned to it."""
    if isinstance(target, (ast.Name, ast.Attribute)):
        return [(ast.unparse(target), value)]
    if isinstance(target, ast.Tuple) and isinstance(value, ast.Tuple) and len(target.elts) == len(value.elts):
        return [row for left, right in zip(target.elts, value.elts) for row in paired(left, right)]
    return []


def modified(node):
    """Return the names and attributes of the lists that a single node modifies."""
    if isinstance(node, ast.Call) and isinstance(node.func, ast.Attribute) and node.func.attr in MODIFIERS:
        return roots(node.func.value)
    targets = getattr(node, "targets", [getattr(node, "target", None)])
    if isinstance(node, (ast.Assign, ast.AugAssign, ast.Delete)):
        return [text for target in targets if isinstance(target, ast.Subscript) for text in roots(target)]
    return []


class Form:
    """The breaches of one package."""

    def __init__(self, folder):
        self.folder = Path(folder)
        self.breaches = []
        self.trees = {}
        self.texts = {}
        self.here = self.folder

    def say(self, rule, line, what):
        self.breaches.append(f"{self.here}:{line}: {rule}: {what}")

    def run(self):
        self.check_folder(self.folder)
        if len(self.trees) > MOST_FILES:
            self.say("L14", 0, "too many files")
        self.methods = {node.name for node in self.all_nodes(ast.FunctionDef)}
        self.errors = {
            node.name for node in self.all_nodes(ast.ClassDef) if node.bases and not node.name.startswith("_")
        }
        self.check_cycles()
        for path, tree in self.trees.items():
            self.here = path
            self.check_text(self.texts[path])
            self.check_module(tree)
            self.check_names(tree)
            for node in ast.walk(tree):
                for child in ast.iter_child_nodes(node):
                    child.parent = node
            for node in ast.walk(tree):
                self.check_node(node)
        return self.breaches

    def all_nodes(self, kind):
        return [node for tree in self.trees.values() for node in ast.walk(tree) if isinstance(node, kind)]

    # Loops and what they go over.

    def check_For(self, node):
        function = node
        while not isinstance(function, (ast.FunctionDef, ast.Module)):
            function = function.parent
        kin = alias_classes(function)
        walked = {kin.get(text, text) for text in roots(node.iter)}
        for inner in [found for row in node.body for found in ast.walk(row)]:
            for text in modified(inner):
                if kin.get(text, text) in walked:
                    self.say("L23", inner.lineno, f"{text} is what the loop of row {node.lineno} goes over")

    # Files and characters.

    def check_folder(self, folder):
        self.here = folder
        if not (folder / "__init__.py").is_file():
            self.say("L14", 0, "no __init__.py")
        for path in sorted(folder.iterdir()):
            self.here = path
            if path.name == "__pycache__":
                continue
            barred = path.stem in BARRED_FILES or path.stem.startswith(("test_", "law_"))
            if barred or (hasattr(builtins, path.stem) and not path.stem.startswith("__")):
                self.say("L14", 0, "name of a file or a folder")
            if path.is_dir():
                if not FOLDER_NAME.fullmatch(path.name) or path.with_suffix(".py").exists():
                    self.say("L14", 0, "name of a folder")
                self.check_folder(path)
            elif not FILE_NAME.fullmatch(path.name):
                self.say("L1", 0, "not a plain .py file")
            else:
                self.texts[path] = path.read_text(encoding="utf-8")
                self.trees[path] = ast.parse(self.texts[path])

    def check_text(self, text):
        lines = text.split("\n")
        if len(lines) - 1 > MOST_LINES:
            self.say("L10", len(lines), "file too long")
        for number, line in enumerate(lines, 1):
            if len(line) > MOST_COLUMNS:
                self.say("L10", number, "line too long")
            if not all(" " <= sign <= "~" for sign in line):
                self.say("L14", number, "character")
            for part in BARRED_PARTS:
                if part in line:
                    self.say("L17", number, part)
        for token in tokenize.generate_tokens(io.StringIO(text).readline):
            # From Python 3.12 on, the own text of an f-string is a token of another sort.
            if tokenize.tok_name[token.type] in ("STRING", "FSTRING_MIDDLE"):
                self.check_string(token)

    def check_string(self, token):
        if token.string.startswith('"""'):
            return
        if "%" in token.string:
            self.say("L27", token.start[0], "percent sign in a string")
        if re.search(r"\\[^nt\\'\"]", token.string):
            self.say("L27", token.start[0], "escape")
        if token.start[0] != token.end[0]:
            self.say("L17", token.start[0], "string over several lines")

    # Modules and imports.

    def module_file(self, module):
        path = self.folder.parent.joinpath(*module.split("."))
        return path.with_suffix(".py") if path.with_suffix(".py") in self.trees else path / "__init__.py"

    def defined(self, tree):
        found = [node.name for node in tree.body if isinstance(node, (ast.FunctionDef, ast.ClassDef))]
        for node in tree.body:
            if isinstance(node, ast.Assign):
                found += [target.id for target in node.targets if isinstance(target, ast.Name)]
        return found

    def imported(self, tree):
        return [alias.name for node in tree.body if isinstance(node, ast.ImportFrom) for alias in node.names]

    def check_cycles(self):
        edges = {
            path: {self.module_file(node.module) for node in tree.body if isinstance(node, ast.ImportFrom)}
            for path, tree in self.trees.items()
        }
        for start in edges:
            reached, waiting = set(), [start]
            while waiting:
                for path in edges.get(waiting.pop(), ()):
                    if path not in reached:
                        reached.add(path)
                        waiting.append(path)
            if start in reached:
                self.here = start
                self.say("L16", 0, "imports go round in a circle")

    def check_module(self, tree):
        bound = self.defined(tree) + self.imported(tree)
        for name in sorted(set(bound)):
            if bound.count(name) > 1:
                self.say("L15", 0, f"{name} is bound more than once")
        at_top = True
        for place, node in enumerate(tree.body):
            docstring = place == 0 and isinstance(node, ast.Expr) and isinstance(node.value, ast.Constant)
            if isinstance(node, ast.ImportFrom):
                self.check_import(node, at_top)
            elif isinstance(node, ast.Assign):
                self.check_plain(node)
            elif not docstring and not isinstance(node, (ast.FunctionDef, ast.ClassDef)):
                self.say("L3", node.lineno, "statement at module level")
            at_top = docstring or (at_top and isinstance(node, ast.ImportFrom))

    def check_import(self, node, at_top):
        if not at_top:
            self.say("L2", node.lineno, "import is not at the top")
        if node.level or not (node.module or "").startswith(self.folder.name + "."):
            self.say("L2", node.lineno, "import from outside of the package")
            return
        path = self.module_file(node.module)
        for alias in node.names:
            if alias.asname or alias.name == "*":
                self.say("L16", node.lineno, "import with as or *")
            elif path not in self.trees or alias.name not in self.defined(self.trees[path]):
                self.say("L16", node.lineno, f"{alias.name} is not defined in {node.module}")

    def check_plain(self, node):
        if len(node.targets) != 1 or not isinstance(node.targets[0], ast.Name):
            self.say("L3", node.lineno, "several targets at module level")
        for inner in ast.walk(node.value):
            if isinstance(inner, (ast.Call, ast.Set, ast.Lambda) + COMPREHENSIONS):
                self.say("L3", inner.lineno, "no plain value at module level")
            if isinstance(inner, (ast.List, ast.Dict)) and inner is not node.value:
                self.say("L15", inner.lineno, "list or dict within a value at module level")

    # Names.

    def check_names(self, tree):
        barred = set(self.imported(tree)) | {node.name for node in tree.body if isinstance(node, ast.ClassDef)}
        methods = {id(node) for owner in ast.walk(tree) if isinstance(owner, ast.ClassDef) for node in owner.body}
        for node in ast.walk(tree):
            if isinstance(node, ast.Attribute):
                self.check_word(node.attr, node.lineno)
            elif isinstance(node, ast.keyword) and node.arg:
                self.check_word(node.arg, node.value.lineno)
            elif isinstance(node, ast.Name) and isinstance(node.ctx, ast.Load):
                self.check_word(node.id, node.lineno)
                if hasattr(builtins, node.id) and node.id not in USABLE:
                    self.say("L8", node.lineno, f"builtin {node.id}")
                if node.id == "_":
                    self.say("L12", node.lineno, "_ is read")
            elif isinstance(node, ast.Name):
                self.check_bound(node.id, node.lineno)
                if node.id in barred:
                    self.say("L15", node.lineno, f"{node.id} is an import or a class of the file")
            elif isinstance(node, ast.arg):
                self.check_bound(node.arg, node.lineno)
                if node.arg in barred:
                    self.say("L15", node.lineno, f"{node.arg} is an import or a class of the file")
            elif isinstance(node, ast.ClassDef):
                self.check_bound(node.name, node.lineno)
            elif isinstance(node, ast.FunctionDef) and id(node) not in methods:
                self.check_bound(node.name, node.lineno)
            elif isinstance(node, ast.FunctionDef) and node.name not in SPECIAL:
                self.check_word(node.name, node.lineno)
                if node.name in NEVER_BOUND or node.name in USABLE:
                    self.say("L17", node.lineno, f"method {node.name}")

    def check_word(self, word, line):
        if not NAME.fullmatch(word) and word not in SPECIAL:
            self.say("L12", line, f"name {word}")
        if word in NOWHERE or word in BARRED_WORDS or FRAME_NAME.fullmatch(word):
            self.say("L17", line, f"name {word}")

    def check_bound(self, word, line):
        self.check_word(word, line)
        if word in NEVER_BOUND:
            self.say("L17", line, f"name {word}")
        if hasattr(builtins, word):
            self.say("L15", line, f"name {word} of a builtin")

    # Single nodes.

    def check_node(self, node):
        check = getattr(self, "check_" + node.__class__.__name__, None)
        if check is not None:
            check(node)
        if isinstance(node, ast.Import):
            self.say("L2", node.lineno, "import of a module")
        if isinstance(node, (ast.GeneratorExp, ast.Global, ast.AsyncFunctionDef, ast.AnnAssign)):
            self.say("L6", node.lineno, f"{node.__class__.__name__} is not used here")

    def check_FunctionDef(self, node):
        first = min([node.lineno] + [decorator.lineno for decorator in node.decorator_list])
        if node.end_lineno - first + 1 > MOST_FUNCTION_LINES:
            self.say("L10", node.lineno, f"{node.name} is too long")
        special = node.name.startswith("__")
        if special and (node.name not in SPECIAL or not isinstance(node.parent, ast.ClassDef)):
            self.say("L5", node.lineno, f"method {node.name}")
        for decorator in node.decorator_list:
            plain = isinstance(decorator, ast.Name) and decorator.id in ("property", "staticmethod", "classmethod")
            setter = isinstance(decorator, ast.Attribute) and decorator.attr == "setter"
            if not (plain or setter) or not isinstance(node.parent, ast.ClassDef):
                self.say("L4", node.lineno, "decorator")

    def check_ClassDef(self, node):
        if node.decorator_list or node.keywords or not isinstance(node.parent, ast.Module):
            self.say("L5", node.lineno, f"class {node.name}")
        for place, row in enumerate(node.body):
            docstring = place == 0 and isinstance(row, ast.Expr) and isinstance(row.value, ast.Constant)
            if not docstring and not isinstance(row, (ast.FunctionDef, ast.Assign)):
                self.say("L5", row.lineno, "statement in a class")
        names = [row.name for row in node.body if isinstance(row, ast.FunctionDef)]
        stored = {
            inner.attr for inner in ast.walk(node) if isinstance(inner, ast.Attribute) and isinstance(inner.ctx, ast.Store)
        }
        for name in names:
            if name in stored:
                self.say("L18", node.lineno, f"{name} is a method and an attribute")

    def check_Constant(self, node):
        if isinstance(node.value, (float, complex)):
            self.say("L7", node.lineno, "float")

    def check_BinOp(self, node):
        if isinstance(node.op, (ast.Div, ast.MatMult)):
            self.say("L7", node.lineno, "sign / or @")

    def check_AugAssign(self, node):
        if isinstance(node.op, (ast.Div, ast.MatMult)):
            self.say("L7", node.lineno, "sign /= or @=")

    def check_Compare(self, node):
        for sign, right in zip(node.ops, node.comparators):
            plain = isinstance(right, ast.Constant) and right.value in (None, True, False)
            if isinstance(sign, (ast.Is, ast.IsNot)) and not plain:
                self.say("L20", node.lineno, "is")

    def check_ExceptHandler(self, node):
        names = node.type.elts if isinstance(node.type, ast.Tuple) else [node.type]
        for name in names:
            if not isinstance(name, ast.Name) or name.id not in CATCHABLE | self.errors:
                self.say("L19", node.lineno, "error that is caught")

    def check_Raise(self, node):
        made = isinstance(node.exc, ast.Call) and isinstance(node.exc.func, ast.Name)
        if node.exc is not None and not made:
            self.say("L19", node.lineno, "raise of what is not made on the spot")

    def check_Call(self, node):
        name = node.func.attr if isinstance(node.func, ast.Attribute) else getattr(node.func, "id", "")
        if isinstance(node.func, ast.Attribute) and name not in METHODS | self.methods:
            self.say("L25", node.lineno, f"method {name}")
        if name in ON_THE_SPOT or (name in VIEWS and isinstance(node.func, ast.Attribute)):
            self.check_on_the_spot(node)
        if name in ("set", "frozenset"):
            self.check_set(node)

    def check_on_the_spot(self, node):
        parent = node.parent
        if isinstance(parent, (ast.For, ast.comprehension)) and parent.iter is node:
            return
        if isinstance(parent, ast.Compare):
            return
        taker = getattr(parent, "func", None)
        taker = getattr(taker, "attr", getattr(taker, "id", ""))
        if not isinstance(parent, ast.Call) or taker not in TAKERS:
            self.say("L23", node.lineno, "not iterated on the spot")

    def check_set(self, node):
        parent = node.parent
        taker = getattr(getattr(parent, "func", None), "id", "")
        if not isinstance(parent, (ast.Compare, ast.Assign)) and taker not in ("sorted", "len"):
            self.say("L24", node.lineno, "set")

    def check_Set(self, node):
        self.check_set(node)

    def check_SetComp(self, node):
        self.check_set(node)


def main(folder):
    breaches = Form(folder).run()
    for breach in breaches:
        print(breach)
    return 1 if breaches else 0


if __name__ == "__main__":
    sys.exit(main(sys.argv[1]))
