"""A reading of a package's files by the rules of the language that they keep to (L1 to L28).

`faults(texts)` takes a dict of texts by file names within the package and tells a sorted list of tuples (rule, file,
row). Where a rule leaves a choice that the package doesn't need (annotations, sets that are written out), the reading
is narrower than the rule; so it is of recursion, which it lets none be. What no reading sees (what an error's words
are) is left out.
"""

import ast
import builtins
import re
import warnings

PACKAGE = "lackstretch"
ERRORS = set("""Exception ValueError TypeError KeyError IndexError LookupError ZeroDivisionError ArithmeticError
OverflowError RuntimeError NotImplementedError AttributeError StopIteration""".split())
FUNCTIONS = set("""len range enumerate zip min max sum abs sorted reversed int str bool list tuple dict set frozenset
isinstance ord repr any all divmod""".split())
METHODS = set("""append clear copy count endswith extend find get index insert isalnum isalpha isdigit islower isspace
isupper items join keys ljust lower lstrip partition pop remove replace reverse rfind rjust rpartition rsplit rstrip
setdefault split splitlines startswith strip update upper values zfill bit_length""".split())
CHANGERS = set("append clear extend insert pop remove reverse setdefault update".split())
DUNDERS = set("__init__ __eq__ __repr__ __str__ __len__".split())
OTHER_DUNDERS = set("__all__ __version__ __name__".split())
WORDS = """type typing typing_extensions enum Enum IntEnum StrEnum Flag IntFlag Generic Protocol ABC ABCMeta namedtuple
NamedTuple TypedDict TYPE_CHECKING abstractmethod""".split()
NOWHERE = set("register mro elements open input version_info with_traceback add_note".split())
FRAMES = r"^(f_(back|builtins|code|globals|lasti|lineno|locals|trace\w*)|tb_\w+|co_\w+|gi_\w+|cr_\w+|ag_\w+)$"
NO_NAMES = set("""attrgetter breakpoint builtins compile copyright credits delattr dir eval exec exit gc getattr globals
hasattr help id importlib license locals methodcaller os quit setattr super type vars""".split())
NO_FILES = set("test tests testing site conftest sitecustomize usercustomize dataclass overload contextmanager".split())
PYTHONS_OWN = set()
for kind in (str, int, list, dict, set, frozenset, tuple, bytes, bytearray):
    PYTHONS_OWN |= {name for name in dir(kind) if not name.startswith("__")}
VALUES_TOO = set("count index title find get join lower upper split strip copy add".split())
STATEMENTS = (ast.Assign, ast.AugAssign, ast.If, ast.While, ast.For, ast.Return, ast.Break, ast.Continue, ast.Pass,
              ast.Raise, ast.Try, ast.Expr, ast.FunctionDef, ast.ClassDef, ast.Import, ast.ImportFrom)
EXPRESSIONS = (ast.BoolOp, ast.BinOp, ast.UnaryOp, ast.Lambda, ast.IfExp, ast.Dict, ast.Set, ast.ListComp, ast.Compare,
               ast.Call, ast.FormattedValue, ast.JoinedStr, ast.Constant, ast.Attribute, ast.Subscript, ast.Name,
               ast.List, ast.Tuple, ast.Slice)
NO_SIGNS = (ast.Div, ast.MatMult)
WALKERS = set("zip enumerate reversed range".split())
WALKED_IN = set("list tuple dict sorted sum any all enumerate zip".split())
READ_BY = WALKED_IN | set("len min max set frozenset reversed".split())
READ_METHODS = set("get items keys values index count copy".split())
KEYS = set("len int str abs sum min max tuple".split())
KEYWORDS = {"sorted": {"key", "reverse"}, "min": {"key", "default"}, "max": {"key", "default"}, "sum": {"start"},
            "enumerate": {"start"}, "zip": {"strict"}}
KINDS = set("int str bool list tuple dict".split())
DEFS = (ast.FunctionDef, ast.Lambda)


def name_of(node):
    return node.id if isinstance(node, ast.Name) else None


def is_call_of(node, names):
    return isinstance(node, ast.Call) and name_of(node.func) in names


def is_text(node):
    return isinstance(node, ast.Constant) and isinstance(node.value, str)


class File:
    def __init__(self, name, text):
        self.name = name
        self.text = text
        self.is_main = name == "__main__.py"
        with warnings.catch_warnings():
            warnings.simplefilter("ignore")
            self.tree = ast.parse(text if name.endswith(".py") else "")
        self.above = {}
        for node in ast.walk(self.tree):
            for child in ast.iter_child_nodes(node):
                self.above[child] = node
        top = self.tree.body
        self.functions = [node.name for node in top if isinstance(node, ast.FunctionDef)]
        self.classes = [node.name for node in top if isinstance(node, ast.ClassDef)]
        self.named = [target.id for node in top if isinstance(node, ast.Assign) for target in node.targets
                      if isinstance(target, ast.Name)]
        self.imports = [alias.asname or alias.name for node in ast.walk(self.tree)
                        if isinstance(node, (ast.Import, ast.ImportFrom)) for alias in node.names]

    def nodes(self, *kinds):
        return [node for node in ast.walk(self.tree) if isinstance(node, kinds)]

    def around(self, node, *kinds):
        """The nearest node of such a kind that the node lies in, or None."""
        node = self.above.get(node)
        while node is not None and not isinstance(node, kinds):
            node = self.above.get(node)
        return node

    def module(self):
        stem = self.name[:-3].replace("/", ".")
        return PACKAGE if stem == "__init__" else f"{PACKAGE}.{stem}"

    def is_docstring(self, node):
        above = self.above.get(node)
        return is_text(node.value) and hasattr(above, "body") and above.body[0] is node and isinstance(
            above, (ast.Module, ast.FunctionDef, ast.ClassDef))


class Package:
    def __init__(self, texts):
        self.names = sorted(texts)
        self.files = [File(name, texts[name]) for name in self.names]
        self.classes = {node.name: node for file in self.files for node in file.tree.body
                        if isinstance(node, ast.ClassDef)}
        self.methods = {each.name for node in self.classes.values() for each in node.body
                        if isinstance(each, ast.FunctionDef)}
        self.values = {node.attr for file in self.files for node in file.nodes(ast.Attribute)
                       if isinstance(node.ctx, ast.Store)}

    def is_error(self, name):
        seen = set()
        while name in self.classes and name not in seen:
            seen.add(name)
            bases = self.classes[name].bases
            name = name_of(bases[0]) if bases else None
        return name in ERRORS

    def errors(self):
        return {name for name in self.classes if self.is_error(name)}


def l1(package):
    for file in package.files:
        if not all(re.fullmatch(r"\w+", part, re.ASCII) for part in file.name.removesuffix(".py").split("/")):
            yield file, 1
        if not file.name.endswith(".py"):
            yield file, 1


def l2(package):
    for file in package.files:
        late = False
        for node in file.tree.body:
            if isinstance(node, (ast.Import, ast.ImportFrom)):
                if late:
                    yield file, node
            elif not (isinstance(node, ast.Expr) and file.is_docstring(node)):
                late = True
        for node in file.nodes(ast.Import, ast.ImportFrom):
            if file.above[node] is not file.tree:
                yield file, node
            if isinstance(node, ast.Import):
                if not (file.is_main and [alias.name for alias in node.names] == ["sys"]):
                    yield file, node
            elif node.module == "__future__":
                if [alias.name for alias in node.names] != ["annotations"]:
                    yield file, node
            elif node.level or not f"{node.module}.".startswith(f"{PACKAGE}.") or node.names[0].name == "*":
                yield file, node
            elif node.module == f"{PACKAGE}.__main__":
                yield file, node


def is_plain(node, known):
    if isinstance(node, (ast.List, ast.Tuple)):
        return all(is_plain(each, known) for each in node.elts)
    if isinstance(node, ast.Dict):
        return all(each is not None and is_plain(each, known) for each in node.keys + node.values)
    if isinstance(node, ast.UnaryOp) and isinstance(node.op, ast.USub):
        return isinstance(node.operand, ast.Constant) and isinstance(node.operand.value, int)
    if isinstance(node, ast.Constant):
        return node.value is None or isinstance(node.value, (int, str))
    return name_of(node) in known


def is_start(node):
    return isinstance(node, ast.If) and ast.unparse(node.test) == "__name__ == '__main__'" and not node.orelse


def l3(package):
    for file in package.files:
        known = set()
        for node in file.tree.body:
            if isinstance(node, ast.FunctionDef):
                known.add(node.name)
            elif isinstance(node, ast.Assign):
                if not isinstance(node.targets[0], ast.Name) or not is_plain(node.value, known):
                    yield file, node
                elif isinstance(node.value, ast.Name):
                    yield file, node
            elif isinstance(node, ast.Expr):
                if not file.is_docstring(node):
                    yield file, node
            elif file.is_main and is_start(node) and node is file.tree.body[-1]:
                continue
            elif not isinstance(node, (ast.Import, ast.ImportFrom, ast.ClassDef)):
                yield file, node


def l4(package):
    for file in package.files:
        for node in file.nodes(*DEFS):
            told = node.args
            if told.vararg or told.kwarg or told.kwonlyargs or told.posonlyargs:
                yield file, node
            if any(not is_plain(each, ()) for each in told.defaults):
                yield file, node
            if getattr(node, "decorator_list", []):
                yield file, node
        for node in file.nodes(ast.FunctionDef):
            around = file.around(node, ast.FunctionDef)
            while around is not None:
                if bound_in(file, node) & bound_in(file, around):
                    yield file, node
                around = file.around(around, ast.FunctionDef)


def bound_in(file, function):
    """The names that a function itself assigns, and its parameters."""
    told = {each.id for each in ast.walk(function) if isinstance(each, ast.Name) and isinstance(each.ctx, ast.Store)
            and file.around(each, *DEFS) is function}
    return told | {each.arg for each in function.args.args}


def l5(package):
    for file in package.files:
        for node in file.nodes(ast.ClassDef):
            if node.decorator_list or node.keywords or len(node.bases) > 1:
                yield file, node
            if any(name_of(base) not in ERRORS | set(package.classes) for base in node.bases):
                yield file, node
            for each in node.body:
                if isinstance(each, ast.FunctionDef):
                    if each.name.startswith("__") and each.name not in DUNDERS:
                        yield file, each
                elif not isinstance(each, ast.Pass) and not (isinstance(each, ast.Expr) and file.is_docstring(each)):
                    yield file, each


def l6(package):
    for file in package.files:
        for node in file.nodes(ast.stmt):
            if not isinstance(node, STATEMENTS):
                yield file, node
            elif isinstance(node, ast.Expr) and not isinstance(node.value, ast.Call) and not file.is_docstring(node):
                yield file, node
            elif isinstance(node, (ast.For, ast.While)) and node.orelse:
                yield file, node
            elif isinstance(node, ast.Assign) and len(node.targets) > 1:
                yield file, node
            elif isinstance(node, ast.Try) and (node.finalbody or any(each.type is None for each in node.handlers)):
                yield file, node


def is_plain_piece(node):
    if isinstance(node, ast.Constant):
        return True
    return isinstance(node.value, ast.Name) and node.conversion in (-1, ord("r")) and node.format_spec is None


def l7(package):
    for file in package.files:
        for node in file.nodes(ast.expr, ast.comprehension, *NO_SIGNS):
            if isinstance(node, ast.comprehension):
                if node.is_async or len(node.ifs) > 1:
                    yield file, node.target
            elif not isinstance(node, EXPRESSIONS):
                yield file, file.above[node] if isinstance(node, NO_SIGNS) else node
            elif isinstance(node, ast.Constant) and not (node.value is None or isinstance(node.value, (int, str))):
                yield file, node
            elif isinstance(node, ast.ListComp) and len(node.generators) > 1:
                yield file, node
            elif isinstance(node, ast.Dict) and None in node.keys:
                yield file, node
            elif isinstance(node, ast.Set) and file.around(node, *DEFS) is None:
                yield file, node
            elif isinstance(node, ast.JoinedStr) and not all(is_plain_piece(each) for each in node.values):
                yield file, node


def names_in(file):
    """Every name, of whatever sort, with a node by which its row is known."""
    for node in ast.walk(file.tree):
        if isinstance(node, ast.Name):
            yield node.id, node
        elif isinstance(node, ast.arg):
            yield node.arg, node
        elif isinstance(node, (ast.FunctionDef, ast.ClassDef)):
            yield node.name, node
        elif isinstance(node, ast.Attribute):
            yield node.attr, node
        elif isinstance(node, ast.keyword) and node.arg:
            yield node.arg, node
        elif isinstance(node, ast.ExceptHandler) and node.name:
            yield node.name, node
        elif isinstance(node, ast.alias):
            yield node.asname or node.name, node


def l8(package):
    for file in package.files:
        allowed = ERRORS | FUNCTIONS | ({"print"} if file.is_main else set())
        for node in file.nodes(ast.Name):
            if not hasattr(builtins, node.id) or node.id in OTHER_DUNDERS:
                continue
            if node.id not in allowed or not isinstance(node.ctx, ast.Load):
                yield file, node
        for node in file.nodes(ast.FunctionDef, ast.ClassDef):
            if hasattr(builtins, node.name) and file.above[node] is file.tree:
                yield file, node
        for name, node in names_in(file):
            if name.startswith("__") and name not in DUNDERS | OTHER_DUNDERS and not (
                    isinstance(node, ast.alias) and name == "__future__"):
                yield file, node
        for node in file.nodes(ast.Attribute):
            if node.attr in ("format", "format_map", "mro"):
                yield file, node


def l9(package):
    for file in package.files:
        for node in file.nodes(ast.Name):
            if node.id in ("sys", "print", "open", "input") and not file.is_main:
                yield file, node


def l10(package):
    for file in package.files:
        rows = file.text.splitlines()
        if len(rows) > 400:
            yield file, 401
        for k, row in enumerate(rows):
            if len(row) > 120 or "\t" in row:
                yield file, k + 1
        for node in file.nodes(ast.FunctionDef):
            if node.end_lineno - node.lineno >= 40:
                yield file, node


def l11(package):
    for file in package.files:
        for node in file.nodes(ast.For, ast.comprehension):
            if isinstance(node.iter, ast.Set) or is_call_of(node.iter, {"set", "frozenset"}):
                yield file, node.target
    called = {}
    for file in package.files:
        for node in file.nodes(ast.FunctionDef):
            called.setdefault(node.name, set()).update(called_in(node))
    for file in package.files:
        for node in file.nodes(ast.FunctionDef):
            if node.name not in DUNDERS and node.name in reached_from(node.name, called):
                yield file, node


def called_in(function):
    """The names of functions that it calls, and of methods of its own kind of object."""
    for call in calls_in(function.body):
        if isinstance(call.func, ast.Name):
            yield call.func.id
        elif isinstance(call.func, ast.Attribute) and name_of(call.func.value) == "self":
            yield call.func.attr


def reached_from(start, ways):
    """All that is come to from there, in whatever many steps."""
    reached = set()
    ahead = list(ways.get(start, ()))
    while ahead:
        step = ahead.pop()
        if step not in reached:
            reached.add(step)
            ahead += ways.get(step, ())
    return reached


def l12(package):
    for file in package.files:
        for name, node in names_in(file):
            if name in DUNDERS | OTHER_DUNDERS or isinstance(node, ast.alias) and name == "*":
                continue
            if not re.fullmatch(r"[A-Za-z][A-Za-z0-9_]*", name):
                yield file, node


def is_asked(file, node):
    above = file.above[node]
    return isinstance(above, ast.Compare) and isinstance(above.ops[-1], (ast.In, ast.NotIn)) and (
        above.comparators[-1] is node)


def l13(package):
    for file in package.files:
        for node in file.nodes(ast.Set):
            if len(node.elts) >= 3 and not is_asked(file, node):
                yield file, node
        seen = set()
        for node in file.nodes(ast.Lambda):
            key = (node.lineno, tuple(each.arg for each in node.args.args))
            if key in seen:
                yield file, node
            seen.add(key)


def l14(package):
    for file in package.files:
        parts = file.name.removesuffix(".py").split("/")
        if "".join(file.name.rpartition("/")[:2]) + "__init__.py" not in package.names:
            yield file, 1
        if parts[-1] == "__main__" and len(parts) > 1:
            yield file, 1
        for part in parts:
            if part != part.lower() or part in NO_FILES | set(WORDS) or part.startswith("test_"):
                yield file, 1
            elif part in dir(builtins):
                yield file, 1
        for k, row in enumerate(file.text.split("\n")):
            if not re.fullmatch(r"[ -~]*", row):
                yield file, k + 1


def locals_of(file):
    for node in file.nodes(ast.arg):
        yield node.arg, node
    for node in file.nodes(ast.Name):
        if isinstance(node.ctx, ast.Store) and file.around(node, *DEFS) is not None:
            yield node.id, node
        elif isinstance(node.ctx, ast.Store) and isinstance(file.above[node], ast.comprehension):
            yield node.id, node
    for node in file.nodes(ast.ExceptHandler):
        if node.name:
            yield node.name, node
    for node in file.nodes(ast.FunctionDef):
        if file.around(node, ast.FunctionDef) is not None:
            yield node.name, node


def is_only_read(file, node):
    above = file.above[node]
    if isinstance(above, ast.Subscript):
        return above.value is node and isinstance(above.ctx, ast.Load) and not isinstance(above.slice, ast.Slice)
    if isinstance(above, (ast.For, ast.comprehension)):
        return above.iter is node
    if isinstance(above, ast.Compare):
        return all(isinstance(sign, (ast.In, ast.NotIn, ast.Eq, ast.NotEq)) for sign in above.ops)
    if isinstance(above, ast.Attribute):
        call = file.above[above]
        return above.attr in READ_METHODS and isinstance(call, ast.Call) and call.func is above
    return is_call_of(above, READ_BY)


def l15(package):
    for file in package.files:
        tops = file.functions + file.classes + file.named + file.imports
        for node in file.tree.body:
            names = [node.name] if isinstance(node, (ast.FunctionDef, ast.ClassDef)) else []
            if isinstance(node, ast.Assign):
                names = [name_of(node.targets[0])]
            if any(tops.count(name) > 1 for name in names):
                yield file, node
        for node in file.nodes(ast.ClassDef):
            if file.above[node] is not file.tree:
                yield file, node
        kept = {}
        for node in file.tree.body:
            if isinstance(node, ast.Assign) and isinstance(node.value, (ast.List, ast.Dict)):
                kept[name_of(node.targets[0])] = node
                inner = [each for each in ast.walk(node.value) if each is not node.value]
                if any(isinstance(each, (ast.List, ast.Dict)) for each in inner):
                    yield file, node
        for node in file.nodes(ast.Name):
            if node.id in kept and isinstance(node.ctx, ast.Load) and not is_only_read(file, node):
                yield file, node
        for name, node in locals_of(file):
            if name in file.classes + file.imports or hasattr(builtins, name):
                yield file, node


def made_in(file):
    return set(file.functions + file.classes + file.named)


def drawn_from(package):
    """By modules: the modules that each draws from, an `__init__` above among them."""
    told = {}
    for file in package.files:
        drawn = {node.module for node in file.nodes(ast.ImportFrom) if node.module and node.module != "__future__"}
        above = {".".join(module.split(".")[:k]) for module in drawn for k in range(1, module.count(".") + 1)}
        told[file.module()] = drawn | above
    return told


def l16(package):
    by_module = {file.module(): file for file in package.files}
    drawn = drawn_from(package)
    stems = {name.rpartition("/")[2].removesuffix(".py") for name in package.names}
    for file in package.files:
        for node in file.nodes(ast.Import):
            if not file.is_main:
                yield file, node
        for node in file.nodes(ast.ImportFrom):
            if node.module == "__future__":
                continue
            made = made_in(by_module[node.module]) if node.module in by_module else set()
            if any(alias.name not in made for alias in node.names):
                yield file, node
        if file.module() in reached_from(file.module(), drawn):
            yield file, 1
        if file.name.endswith("__init__.py") and (made_in(file) | set(file.imports)) & stems:
            yield file, 1


def l17(package):
    for file in package.files:
        for name, node in names_in(file):
            if name in NOWHERE or re.match(FRAMES, name):
                yield file, node
            elif name in NO_NAMES and not isinstance(node, ast.Attribute):
                yield file, node
            elif name == "sys" and not file.is_main:
                yield file, node
            elif name == "__name__":
                start = file.tree.body[-1]
                if not (file.is_main and is_start(start) and file.above.get(file.above.get(node)) is start):
                    yield file, node
        for k, row in enumerate(file.text.split("\n")):
            if re.search(r"\b(" + "|".join(WORDS) + r")\b|dataclass|overload|contextmanager", row):
                yield file, k + 1


def is_class_use(file, node):
    above = file.above[node]
    if isinstance(above, ast.Tuple):
        node, above = above, file.above[above]
    if isinstance(above, ast.Call):
        return above.func is node or is_call_of(above, {"isinstance"}) and above.args[-1] is node
    if isinstance(above, ast.Attribute):
        return above.attr == "__init__"
    return isinstance(above, (ast.ClassDef, ast.ExceptHandler))


def l18(package):
    for file in package.files:
        classes = set(package.classes) & set(file.classes + file.imports)
        for node in file.nodes(ast.Name):
            if node.id in classes | ERRORS and isinstance(node.ctx, ast.Load) and not is_class_use(file, node):
                yield file, node
        for node in file.nodes(ast.Attribute):
            if isinstance(node.ctx, ast.Store):
                if name_of(node.value) in {None} | classes | made_in(file) | set(file.imports):
                    yield file, node
                if node.attr in package.methods:
                    yield file, node
        for node in file.nodes(ast.ClassDef):
            names = [each.name for each in node.body if isinstance(each, ast.FunctionDef)]
            if len(set(names)) < len(names):
                yield file, node
            if any(name_of(base) in ("StopIteration", "AttributeError") for base in node.bases):
                yield file, node


def taken(handler):
    kinds = handler.type.elts if isinstance(handler.type, ast.Tuple) else [handler.type]
    return [name_of(kind) for kind in kinds]


def calls_in(statements):
    return [node for each in statements for node in ast.walk(each) if isinstance(node, ast.Call)]


def is_bare(body, names):
    """Nothing in a try that could raise its like but a call of these names, or an index where there are none."""
    nodes = [node for each in body for node in ast.walk(each)]
    if any(isinstance(node, (ast.JoinedStr, ast.Slice, ast.Lambda, ast.Mult, ast.Pow, ast.Mod, ast.LShift, ast.RShift))
           for node in nodes):
        return False
    calls = [name_of(call.func) or getattr(call.func, "attr", None) for call in calls_in(body)]
    if len(body) != 1 or any(call not in names for call in calls):
        return False
    return len(calls) > 0 if names else any(isinstance(node, ast.Subscript) for node in nodes)


def asks_objects(body):
    """Whether something in a try may call a method of the package's own without a call's being written."""
    return any(isinstance(node, (ast.Compare, ast.BoolOp, ast.Not, ast.IfExp, ast.If, ast.While)) or
               is_call_of(node, {"len", "str"}) for each in body for node in ast.walk(each))


def l19(package):
    own = package.errors()
    asked = {"__eq__", "__len__", "__str__", "__repr__"} & package.methods
    for file in package.files:
        for node in file.nodes(ast.Try):
            for handler in node.handlers:
                names = taken(handler) if handler.type else ["Exception"]
                if any(name not in own | {"KeyError", "ZeroDivisionError", "StopIteration", "ValueError", "LookupError",
                                          "IndexError"} for name in names):
                    yield file, handler
                elif asked and {"ValueError", "LookupError", "IndexError"} & set(names) and asks_objects(node.body):
                    yield file, node
                elif {"ValueError", "LookupError"} & set(names):
                    if not is_bare(node.body, {"int", "str", "index", "remove"}):
                        yield file, node
                elif "IndexError" in names and not is_bare(node.body, set()):
                    yield file, node
        for node in file.nodes(ast.Raise):
            handler = file.around(node, ast.ExceptHandler, ast.FunctionDef)
            if not is_call_of(node.exc, own | ERRORS):
                yield file, node
            if node.cause is not None and not (isinstance(node.cause, ast.Constant) and node.cause.value is None):
                if name_of(node.cause) is None or name_of(node.cause) != getattr(handler, "name", None):
                    yield file, node


def l20(package):
    for file in package.files:
        for node in file.nodes(ast.Compare):
            sides = [node.left] + node.comparators
            for k, sign in enumerate(node.ops):
                if isinstance(sign, (ast.Is, ast.IsNot)) and not any(
                        isinstance(side, ast.Constant) and (side.value is None or side.value is True or
                                                            side.value is False) for side in sides[k:k + 2]):
                    yield file, node


def l21(package):
    for file in package.files:
        for node in file.nodes(ast.AnnAssign):
            yield file, node
        for node in file.nodes(ast.arg):
            if node.annotation is not None:
                yield file, node
        for node in file.nodes(ast.FunctionDef):
            if node.returns is not None:
                yield file, node


def is_kind(package, node):
    if isinstance(node, ast.Tuple):
        return all(is_kind(package, each) for each in node.elts) and len(node.elts) > 0
    return name_of(node) in KINDS | ERRORS | set(package.classes)


def wrong_keywords(package, node):
    name = name_of(node.func)
    if name in FUNCTIONS:
        allowed = KEYWORDS.get(name, set())
    elif name in ERRORS | package.errors() or getattr(node.func, "attr", None) in METHODS:
        allowed = set()
    else:
        return False
    for keyword in node.keywords:
        if keyword.arg not in allowed:
            return True
        if keyword.arg in ("reverse", "strict") and not (
                isinstance(keyword.value, ast.Constant) and isinstance(keyword.value.value, bool)):
            return True
    return False


def l22(package):
    for file in package.files:
        for node in file.nodes(ast.Call):
            if is_call_of(node, {"isinstance"}) and (len(node.args) != 2 or not is_kind(package, node.args[1])):
                yield file, node
            if wrong_keywords(package, node):
                yield file, node
        for node in file.nodes(ast.Name):
            if node.id not in FUNCTIONS or not isinstance(node.ctx, ast.Load):
                continue
            above = file.above[node]
            as_key = isinstance(above, ast.keyword) and above.arg == "key" and node.id in KEYS
            called = isinstance(above, ast.Call) and above.func is node
            if not (as_key or called or is_class_use(file, node)):
                yield file, node


def is_walked(file, node):
    above = file.above[node]
    if isinstance(above, (ast.For, ast.comprehension)):
        return above.iter is node
    if not isinstance(above, ast.Call) or not above.args or above.args[0] is not node:
        return False
    if isinstance(above.func, ast.Attribute):
        return above.func.attr == "join" and is_text(above.func.value)
    if name_of(above.func) in ("min", "max"):
        return len(above.args) == 1
    return name_of(above.func) in WALKED_IN


def walked_things(node):
    if isinstance(node, ast.Call):
        if name_of(node.func) in ("enumerate", "zip", "reversed"):
            return [thing for each in node.args for thing in walked_things(each)]
        if isinstance(node.func, ast.Attribute) and node.func.attr in ("items", "keys", "values"):
            return walked_things(node.func.value)
        return []
    return [ast.unparse(node)] if isinstance(node, (ast.Name, ast.Attribute, ast.Subscript)) else []


def changed_things(statements):
    for each in statements:
        for node in ast.walk(each):
            if isinstance(node, ast.Subscript) and isinstance(node.ctx, ast.Store):
                yield ast.unparse(node.value)
            elif isinstance(node, ast.AugAssign):
                yield ast.unparse(node.target)
            elif isinstance(node, ast.Call) and isinstance(node.func, ast.Attribute) and node.func.attr in CHANGERS:
                yield ast.unparse(node.func.value)


def l23(package):
    for file in package.files:
        for node in file.nodes(ast.Call):
            method = node.func.attr if isinstance(node.func, ast.Attribute) else None
            if name_of(node.func) in WALKERS or method in ("items", "keys", "values"):
                if not is_walked(file, node):
                    yield file, node
        for node in file.nodes(ast.For):
            if set(walked_things(node.iter)) & set(changed_things(node.body)):
                yield file, node


def is_set_use(file, node):
    above = file.above[node]
    while isinstance(above, ast.BinOp) and isinstance(above.op, (ast.Sub, ast.BitAnd, ast.BitOr, ast.BitXor)):
        node, above = above, file.above[above]
    if isinstance(above, ast.Compare):
        return all(isinstance(sign, (ast.In, ast.NotIn, ast.Eq, ast.NotEq)) for sign in above.ops)
    return is_call_of(above, {"sorted", "len"}) and not above.keywords


def l24(package):
    for file in package.files:
        for node in file.nodes(ast.Call, ast.Set):
            if isinstance(node, ast.Set) or is_call_of(node, {"set", "frozenset"}):
                if not is_set_use(file, node):
                    yield file, node


def l25(package):
    for file in package.files:
        for node in file.nodes(ast.Attribute):
            above = file.above[node]
            if isinstance(above, ast.Call) and above.func is node:
                if node.attr not in METHODS | package.methods | {"__init__"}:
                    yield file, node
            elif isinstance(node.ctx, ast.Load) and node.attr in METHODS | package.methods:
                if node.attr not in package.values and not (isinstance(above, ast.keyword) and above.arg == "key"):
                    yield file, node


def l26(package):
    for file in package.files:
        for node in file.nodes(ast.FunctionDef):
            if isinstance(file.above[node], ast.ClassDef) and node.name in PYTHONS_OWN - METHODS - {"add", "discard"}:
                yield file, node
        for node in file.nodes(ast.Attribute):
            if isinstance(node.ctx, ast.Store) and node.attr in (PYTHONS_OWN | {"args", "sort"}) - VALUES_TOO:
                yield file, node


def l27(package):
    for file in package.files:
        for node in file.nodes(ast.BinOp, ast.AugAssign):
            power = node.right if isinstance(node, ast.BinOp) else node.value
            if isinstance(node.op, ast.Pow) and not (
                    isinstance(power, ast.Constant) and isinstance(power.value, int) and 0 <= power.value <= 64):
                yield file, node
        for node in file.nodes(ast.Constant):
            if isinstance(node.value, str) and "%" in node.value:
                yield file, node
            elif isinstance(node.value, int) and abs(node.value) >= 10 ** 900:
                yield file, node
        for node in file.nodes(ast.Name):
            if node.id == "chr":
                yield file, node
        for k, row in enumerate(file.text.split("\n")):
            if "\\" in re.sub(r"\\[nt\\'\"]", "", row):
                yield file, k + 1


def is_told_as(node, dunder):
    if dunder == "__len__":
        return is_call_of(node, {"len"}) or isinstance(node, ast.Constant) and isinstance(node.value, int)
    if dunder in ("__repr__", "__str__"):
        joins = isinstance(node, ast.Call) and isinstance(node.func, ast.Attribute) and node.func.attr == "join"
        return (is_text(node) or isinstance(node, ast.JoinedStr) or is_call_of(node, {"str", "repr"}) or
                joins and is_text(node.func.value))
    return True


def l28(package):
    for file in package.files:
        for node in file.nodes(ast.FunctionDef):
            if node.name not in DUNDERS:
                continue
            for each in ast.walk(node):
                if isinstance(each, ast.Return):
                    if node.name == "__init__" and each.value is not None or not is_told_as(each.value, node.name):
                        yield file, each
                elif node.name != "__init__":
                    stores = isinstance(each, (ast.Attribute, ast.Subscript)) and isinstance(each.ctx, ast.Store)
                    if stores or isinstance(each, ast.AugAssign):
                        yield file, each
            if node.name != "__init__" and any(True for _ in changed_things(node.body)):
                yield file, node


CHECKS = {"L1": l1, "L2": l2, "L3": l3, "L4": l4, "L5": l5, "L6": l6, "L7": l7, "L8": l8, "L9": l9, "L10": l10,
          "L11": l11, "L12": l12, "L13": l13, "L14": l14, "L15": l15, "L16": l16, "L17": l17, "L18": l18, "L19": l19,
          "L20": l20, "L21": l21, "L22": l22, "L23": l23, "L24": l24, "L25": l25, "L26": l26, "L27": l27, "L28": l28}


def faults(texts):
    package = Package(texts)
    told = set()
    for rule, check in CHECKS.items():
        for file, at in check(package):
            told.add((rule, file.name, at if isinstance(at, int) else at.lineno))
    return sorted(told)
