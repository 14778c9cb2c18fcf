"""Looks through the package's files for what the language rules bar, as far as a look at the syntax can tell."""

import ast
import builtins
import functools
import os
import re

HERE = os.path.dirname(os.path.abspath(__file__))
PACKAGE = os.path.join(os.path.dirname(HERE), "everygust")

BUILTINS = set("""len range enumerate zip min max sum abs sorted reversed int str bool bytes list tuple dict set
frozenset isinstance ord repr any all divmod pow getattr hasattr setattr type iter next map Exception ValueError
TypeError KeyError IndexError LookupError ZeroDivisionError ArithmeticError OverflowError RuntimeError
NotImplementedError AttributeError StopIteration NotImplemented super property staticmethod classmethod""".split())
MAY_SHADOW = set("object id format credits license copyright quit callable complex ascii oct memoryview".split())
METHODS = set("""append clear copy count endswith extend find get index insert isalnum isalpha isdigit islower isspace
isupper items join keys ljust lower lstrip partition pop remove replace reverse rfind rjust rpartition rsplit rstrip
setdefault split splitlines startswith strip update upper values zfill bit_length add discard title capitalize swapcase
casefold center expandtabs removeprefix removesuffix rindex isascii""".split())
CHANGING = set("append clear extend insert pop remove reverse setdefault update sort add discard".split())
BARRED_WORDS = """typing typing_extensions enum Enum IntEnum StrEnum Flag IntFlag Generic Protocol ABC ABCMeta
namedtuple NamedTuple TypedDict TYPE_CHECKING abstractmethod""".split()
BARRED_NAMES = set("""mro elements open input law version_info with_traceback add_note register attrgetter breakpoint
builtins compile copyright credits delattr dir eval exec exit gc globals help id importlib license locals methodcaller
os quit setattr super vars sys""".split())
LIBRARY = {
    "math": {"gcd", "lcm", "isqrt", "comb", "perm", "factorial"},
    "heapq": {"heappush", "heappop", "heapify"},
    "itertools": {"product", "combinations", "permutations", "chain", "accumulate", "pairwise", "islice"},
}
ON_THE_SPOT = {"zip", "enumerate", "reversed", "range", "map"}
EATERS = {"list", "tuple", "dict", "sorted", "sum", "any", "all", "enumerate", "zip", "min", "max", "set"}
GENERATOR_EATERS = {"list", "tuple", "dict", "sorted", "sum", "min", "max", "any", "all"}
STATEMENTS = (
    ast.Assign, ast.AugAssign, ast.AnnAssign, ast.If, ast.While, ast.For, ast.Return, ast.Break, ast.Continue,
    ast.Pass, ast.Raise, ast.Assert, ast.Delete, ast.Nonlocal, ast.Match, ast.With, ast.Try, ast.Expr,
    ast.FunctionDef, ast.ClassDef, ast.Import, ast.ImportFrom, ast.Global)


def files():
    return sorted(name for name in os.listdir(PACKAGE) if name != "__pycache__")


def source(name):
    with open(os.path.join(PACKAGE, name), encoding="utf-8") as told:
        return told.read()


def parents_of(tree):
    found = {}
    for node in ast.walk(tree):
        for child in ast.iter_child_nodes(node):
            found[child] = node
    return found


@functools.lru_cache
def shared_names():
    """The names of all lists and dicts at module level, of whatever file."""
    found = set()
    for name in files():
        for node in ast.parse(source(name)).body:
            if isinstance(node, ast.Assign) and isinstance(node.value, (ast.List, ast.Dict)):
                found.add(node.targets[0].id)
    return found


def functions_of(tree):
    return [node for node in ast.walk(tree) if isinstance(node, ast.FunctionDef)]


def bound_in(function):
    found = [arg.arg for arg in function.args.posonlyargs + function.args.args + function.args.kwonlyargs]
    for node in ast.walk(function):
        if isinstance(node, ast.Name) and isinstance(node.ctx, ast.Store):
            found.append(node.id)
        if isinstance(node, ast.Lambda):
            found.extend(arg.arg for arg in node.args.args)
        if isinstance(node, ast.FunctionDef) and node is not function:
            found.append(node.name)
    return found


class Look:
    """All that is wrong with one file."""

    def __init__(self, name):
        self.name = name
        self.text = source(name)
        self.tree = ast.parse(self.text)
        self.parents = parents_of(self.tree)
        self.faults = []
        self.look()

    def fault(self, node, rule, why):
        self.faults.append(f"{self.name}:{getattr(node, 'lineno', node)}: {rule}: {why}")

    def look(self):
        self.lines()
        self.module()
        self.imported = {}
        self.shared = shared_names()
        for node in self.tree.body:
            if isinstance(node, ast.ImportFrom):
                for alias in node.names:
                    self.imported[alias.asname or alias.name] = node.module
        for node in ast.walk(self.tree):
            for kind in type(node).__mro__:
                action = getattr(self, "on_" + kind.__name__, None)
                if action:
                    action(node)
        for function in functions_of(self.tree):
            self.function(function)
        self.unused()

    def lines(self):
        rows = self.text.split("\n")
        if len(rows) > 400:
            self.fault(1, "L10", "file too long")
        for k, row in enumerate(rows):
            if len(row) > 120:
                self.fault(k + 1, "L10", "line too long")
            if row != row.rstrip():
                self.fault(k + 1, "style", "blank at the end")
            if any(not " " <= sign <= "~" for sign in row):
                self.fault(k + 1, "L14", "sign beyond ASCII")
            for word in re.findall(r"\w+", row):
                if word in BARRED_WORDS or "dataclass" in word or "overload" in word or "contextmanager" in word:
                    self.fault(k + 1, "L17", word)
            if "_wall" in re.sub(r"\w*[a-z0-9]_walls?\b", "", row):
                self.fault(k + 1, "L12", "_wall")

    def module(self):
        for k, node in enumerate(self.tree.body):
            doc = isinstance(node, ast.Expr) and k == 0
            if not doc and not isinstance(node, (ast.ImportFrom, ast.FunctionDef, ast.ClassDef, ast.Assign)):
                self.fault(node, "L3", "statement at module level")
            if isinstance(node, ast.Assign):
                if len(node.targets) != 1 or not isinstance(node.targets[0], ast.Name):
                    self.fault(node, "L3", "target")
                for part in ast.walk(node.value):
                    if isinstance(part, (ast.Call, ast.ListComp, ast.Attribute, ast.Set)):
                        self.fault(node, "L3", "value")
                    if isinstance(part, (ast.List, ast.Dict)) and part is not node.value:
                        self.fault(node, "L15", "list or dict inside")

    def on_stmt(self, node):
        if not isinstance(node, STATEMENTS):
            self.fault(node, "L6", type(node).__name__)

    def on_ImportFrom(self, node):
        if node.level or node.module is None:
            self.fault(node, "L2", "leading dot")
            return
        for alias in node.names:
            if alias.asname or alias.name == "*":
                self.fault(node, "L2", "as or *")
        if node.module in LIBRARY:
            for alias in node.names:
                if alias.name not in LIBRARY[node.module]:
                    self.fault(node, "L2", alias.name)
        elif node.module.startswith("everygust."):
            path = node.module.split(".")[1] + ".py"
            if path not in files():
                self.fault(node, "L2", path)
                return
            told = ast.parse(source(path))
            names = [one.name for one in told.body if isinstance(one, (ast.FunctionDef, ast.ClassDef))]
            names += [one.targets[0].id for one in told.body if isinstance(one, ast.Assign)]
            for alias in node.names:
                if alias.name not in names:
                    self.fault(node, "L16", alias.name + " is not defined there")
        else:
            self.fault(node, "L2", node.module)

    def on_Import(self, node):
        self.fault(node, "L16", "import")

    def on_BinOp(self, node):
        if isinstance(node.op, (ast.Div, ast.MatMult)):
            self.fault(node, "L7", "operator")
        if isinstance(node.op, ast.Pow) and not isinstance(node.right, ast.Constant):
            self.fault(node, "L27", "exponent")

    def on_Constant(self, node):
        if isinstance(node.value, (float, complex)) or node.value is Ellipsis:
            self.fault(node, "L7", "number")
        if isinstance(node.value, str) and not isinstance(self.parents.get(node), ast.Expr):
            if "%" in node.value:
                self.fault(node, "L27", "sign in a string")
            if re.search(r"\btype\b", node.value):
                pass

    def on_Name(self, node):
        self.shared_name(node)
        if isinstance(node.ctx, ast.Load):
            if node.id == "_":
                self.fault(node, "L12", "_ is read")
            known = hasattr(builtins, node.id)
            if known and node.id not in BUILTINS:
                owners = [self.parents[node]]
                while owners[-1] in self.parents:
                    owners.append(self.parents[owners[-1]])
                local = [one for one in owners if isinstance(one, ast.FunctionDef) and node.id in bound_in(one)]
                if not local:
                    self.fault(node, "L8", node.id)
            if node.id in ("sorted", "len", "min", "max", "zip", "range", "print", "enumerate") and known:
                parent = self.parents[node]
                is_called = isinstance(parent, ast.Call) and parent.func is node
                is_key = isinstance(parent, ast.keyword) and parent.arg == "key"
                if not is_called and not is_key:
                    self.fault(node, "L22", node.id + " as a value")
        else:
            self.name_is_free(node, node.id)

    def shared_name(self, node):
        """A list or dict at module level is only read where it stands, never passed on or given another name."""
        if node.id not in self.shared or isinstance(node.ctx, ast.Store):
            return
        parent = self.parents[node]
        if isinstance(parent, (ast.Compare, ast.For, ast.comprehension)) or isinstance(parent,
                ast.Subscript) and parent.value is node:
            return
        if isinstance(parent, ast.Attribute) and parent.attr in ("get", "items", "keys", "values", "index", "count"):
            return
        if isinstance(parent, ast.Call) and getattr(parent.func, "id", "") in EATERS | {"len"}:
            return
        self.fault(node, "L15", node.id + " is passed on")

    def name_is_free(self, node, name):
        # Where doctests have run, builtins have a name _ of theirs.
        if hasattr(builtins, name) and name not in MAY_SHADOW and name != "_":
            self.fault(node, "L15", name + " is a builtin")
        if name in BARRED_NAMES or name.startswith("__") or not re.fullmatch(r"_|_?[A-Za-z]\w*", name):
            self.fault(node, "L17", name)

    def on_arg(self, node):
        self.name_is_free(node, node.arg)
        if node.annotation is not None:
            self.fault(node, "L21", "annotation")

    def on_FunctionDef(self, node):
        size = node.end_lineno - node.lineno + 1
        if size > 40:
            self.fault(node, "L10", f"{node.name} has {size} lines")
        if node.decorator_list or node.returns is not None:
            self.fault(node, "L4", "decorator or annotation")
        is_method = isinstance(self.parents[node], ast.ClassDef)
        if not (is_method and node.name in ("__init__", "__call__")):
            if hasattr(builtins, node.name) and not is_method or node.name.startswith("__"):
                self.fault(node, "L15", node.name)
        if node.name in BARRED_NAMES or is_method and node.name == "sort":
            self.fault(node, "L17", node.name)
        if not ast.get_docstring(node) and not node.name.startswith("_"):
            self.fault(node, "style", node.name + " has no docstring")

    def on_AsyncFunctionDef(self, node):
        self.fault(node, "L6", "async")

    def on_ClassDef(self, node):
        methods = {part.name for part in node.body if isinstance(part, ast.FunctionDef)}
        for part in ast.walk(node):
            if isinstance(part, ast.Attribute) and isinstance(part.ctx, ast.Store) and part.attr in methods:
                self.fault(part, "L18", part.attr + " is a method and an attribute")
        if node.decorator_list or node.keywords:
            self.fault(node, "L5", "decorator")
        for part in node.body:
            is_doc = isinstance(part, ast.Expr) and isinstance(part.value, ast.Constant)
            if not is_doc and not isinstance(part, ast.FunctionDef):
                self.fault(part, "L5", "statement in a class")

    def on_GeneratorExp(self, node):
        call = self.parents[node]
        ok = isinstance(call, ast.Call) and isinstance(call.func, ast.Name) and call.func.id in GENERATOR_EATERS
        if not ok:
            self.fault(node, "L7", "generator expression")

    def on_Set(self, node):
        if not isinstance(self.parents[node], ast.Compare):
            self.fault(node, "L24", "set")

    def on_SetComp(self, node):
        self.on_Set(node)

    def on_Yield(self, node):
        self.fault(node, "L23", "yield: look at it by hand")

    def on_Lambda(self, node):
        pass

    def on_Compare(self, node):
        for op, right in zip(node.ops, node.comparators):
            if isinstance(op, (ast.Is, ast.IsNot)):
                plain = isinstance(right, ast.Constant) and right.value in (None, True, False)
                sort = isinstance(node.left, ast.Call) and getattr(node.left.func, "id", "") == "type"
                if not plain and not sort:
                    self.fault(node, "L20", "is")

    def on_Call(self, node):
        if isinstance(node.func, ast.Name):
            self.call_of_name(node, node.func.id)
        if isinstance(node.func, ast.Attribute):
            name = node.func.attr
            if name == "sort" or name == "format":
                self.fault(node, "L25", name)
            if name in METHODS and node.keywords:
                self.fault(node, "L25", "keyword")
            if name in ("items", "keys", "values") and not self.is_on_the_spot(node):
                self.fault(node, "L23", name + " is kept")
        if isinstance(node.func, (ast.Subscript, ast.Call)):
            self.fault(node, "L3", "call of an item or a call")
        for arg in node.args:
            if isinstance(arg, ast.Starred):
                self.fault(node, "L7", "star: look at it by hand")

    def call_of_name(self, node, name):
        if name in ON_THE_SPOT and name not in self.imported and not self.is_on_the_spot(node):
            self.fault(node, "L23", name + " is kept")
        if name == "type" and not isinstance(self.parents[node], ast.Compare):
            self.fault(node, "L8", "type")
        if name == "set":
            parent = self.parents[node]
            eaten = isinstance(parent, ast.Call) and getattr(parent.func, "id", "") in ("sorted", "len")
            kept = isinstance(parent, ast.Assign)
            if not eaten and not kept and not isinstance(parent, ast.Compare):
                self.fault(node, "L24", "set")
        allowed = {"sorted": {"key", "reverse"}, "min": {"key", "default"}, "max": {"key", "default"},
                   "sum": {"start"}, "enumerate": {"start"}, "zip": {"strict"}}
        if hasattr(builtins, name) and name not in self.imported:
            for keyword in node.keywords:
                if keyword.arg not in allowed.get(name, set()):
                    self.fault(node, "L22", "keyword")

    def is_on_the_spot(self, node):
        parent = self.parents[node]
        if isinstance(parent, ast.For) and parent.iter is node:
            return True
        if isinstance(parent, ast.comprehension) and parent.iter is node:
            return True
        if isinstance(parent, ast.Call) and isinstance(parent.func, ast.Name):
            if parent.func.id in EATERS:
                return True
            return parent.func.id in ("len", "reversed") and getattr(node.func, "id", "") == "range"
        if isinstance(parent, ast.Call) and isinstance(parent.func, ast.Attribute):
            return parent.func.attr == "join"
        if isinstance(parent, ast.Compare):
            return any(isinstance(op, (ast.In, ast.NotIn)) for op in parent.ops)
        return False

    def on_Attribute(self, node):
        if node.attr.startswith("__") or node.attr in ("format", "mro", "sort", "args"):
            self.fault(node, "L26", node.attr)
        if isinstance(node.ctx, ast.Store):
            barred = "items keys values pop update append clear extend insert remove reverse setdefault encode".split()
            if node.attr in barred or not isinstance(node.value, ast.Name):
                self.fault(node, "L26", node.attr)

    def on_ExceptHandler(self, node):
        if node.type is None:
            self.fault(node, "L6", "except without a class")

    def on_Raise(self, node):
        if node.exc is not None:
            ok = isinstance(node.exc, ast.Call) and isinstance(node.exc.func, ast.Name)
            if not ok or not node.exc.func.id[0].isupper():
                self.fault(node, "L19", "raise")

    def on_For(self, node):
        names = {ast.dump(part, include_attributes=False) for part in self.iterated(node.iter)}
        for inner in node.body:
            for part in ast.walk(inner):
                changed = None
                if isinstance(part, ast.Call) and isinstance(part.func, ast.Attribute) and part.func.attr in CHANGING:
                    changed = part.func.value
                if isinstance(part, ast.Subscript) and isinstance(part.ctx, (ast.Store, ast.Del)):
                    changed = part.value
                if changed is not None and ast.dump(changed, include_attributes=False).replace(
                        "Store()", "Load()") in names:
                    self.fault(part, "L23", "changes what its loop iterates over")

    def iterated(self, node):
        if isinstance(node, ast.Call):
            if getattr(node.func, "id", "") in ("enumerate", "zip", "reversed"):
                return [part for arg in node.args for part in self.iterated(arg)]
            if isinstance(node.func, ast.Attribute) and node.func.attr in ("items", "keys", "values"):
                return [node.func.value]
            return []
        return [node]

    def function(self, function):
        classes = {node.name for node in ast.walk(self.tree) if isinstance(node, ast.ClassDef)}
        for name in bound_in(function):
            if name in self.imported or name in classes:
                self.fault(function, "L15", f"{function.name} binds {name}, an import or class")
        tops = {node.name for node in self.tree.body if isinstance(node, ast.FunctionDef)}
        for name in bound_in(function):
            if name in tops:
                self.fault(function, "style", f"{function.name} binds {name}, a function")

    def unused(self):
        used = {node.id for node in ast.walk(self.tree) if isinstance(node, ast.Name)}
        for name in self.imported:
            if name not in used and self.name != "__init__.py":
                self.fault(1, "style", name + " is imported and not used")
        for function in functions_of(self.tree):
            stored, loaded = {}, set()
            for node in ast.walk(function):
                if isinstance(node, ast.Name) and isinstance(node.ctx, ast.Load):
                    loaded.add(node.id)
                elif isinstance(node, ast.Name):
                    stored[node.id] = node
            for name, node in stored.items():
                if name not in loaded and name != "_":
                    self.fault(node, "style", name + " is not read")


def circles():
    """The files that import from one another."""
    after = {}
    for name in files():
        after[name] = []
        for node in ast.walk(ast.parse(source(name))):
            if isinstance(node, ast.ImportFrom) and node.module and node.module.startswith("everygust."):
                after[name].append(node.module.split(".")[1] + ".py")
    reached = {name: set(after[name]) for name in after}
    for _ in after:
        for name in after:
            for other in list(reached[name]):
                reached[name] |= reached.get(other, set())
    return sorted(name for name in after if name in reached[name])


def attribute_faults():
    """Attributes that are read and assigned by no class, and private helpers that are never used."""
    assigned, read, methods = set(), {}, set()
    for name in files():
        for node in ast.walk(ast.parse(source(name))):
            if isinstance(node, ast.Attribute):
                if isinstance(node.ctx, ast.Store):
                    assigned.add(node.attr)
                else:
                    read[node.attr] = f"{name}:{node.lineno}: {node.attr}"
            if isinstance(node, ast.ClassDef):
                methods |= {part.name for part in node.body if isinstance(part, ast.FunctionDef)}
    return sorted(why for attr, why in read.items() if attr not in assigned | methods | METHODS)


def unused_helpers():
    """Functions that nothing uses, but for those of the interface, which the caller knows."""
    found = []
    texts = {name: source(name) for name in files()}
    for name, text in texts.items():
        for node in ast.walk(ast.parse(text)):
            if isinstance(node, (ast.FunctionDef, ast.ClassDef)) and not node.name.startswith("__"):
                uses = sum(len(re.findall(r"\b" + node.name + r"\b", other)) for other in texts.values())
                if uses < 2:
                    found.append((name, node.name))
    return found


def all_faults():
    found = []
    for name in files():
        if not re.fullmatch(r"[a-z_]+\.py", name):
            found.append(name + ": L1: file name")
            continue
        found.extend(Look(name).faults)
    found.extend(name + ": L16: imports in a circle" for name in circles())
    found.extend(attribute_faults())
    if len(files()) > 100:
        found.append("L14: too many files")
    return found


if __name__ == "__main__":
    print("\n".join(all_faults()))
    print(unused_helpers())
