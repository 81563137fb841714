"""Looks through the files of the package for what shared/LANGUAGE.md does not let.

It knows the rules that can be told from one file's text without doubt; it does not know all of them.
Usage: python3 .ci/language.py FOLDER
"""

import ast
import builtins
import os
import sys

ALLOWED_BUILTINS = set("""len range enumerate zip min max sum abs sorted reversed int str bool bytes list tuple dict set
frozenset isinstance ord repr any all divmod pow getattr hasattr setattr iter next map type super property staticmethod
classmethod print Exception ValueError TypeError KeyError IndexError LookupError ZeroDivisionError ArithmeticError
OverflowError RuntimeError NotImplementedError AttributeError StopIteration NotImplemented __name__ object float
""".split())
LIBRARY = {
    "heapq": {"heappush", "heappop", "heapify", "heapreplace", "heappushpop"},
    "math": {"gcd", "lcm", "isqrt", "comb", "perm", "factorial"},
    "itertools": {"product", "combinations", "permutations", "chain", "accumulate", "pairwise", "islice",
                  "zip_longest"},
    "collections": {"defaultdict", "deque"},
    "__future__": {"annotations"},
}
BUILTIN_METHODS = set("""append clear copy count endswith extend find get index insert isalnum isalpha isdigit islower
isspace isupper items join keys ljust lower lstrip partition pop remove replace reverse rfind rjust rpartition rsplit
rstrip setdefault split splitlines startswith strip update upper values zfill bit_length title capitalize swapcase
casefold center expandtabs removeprefix removesuffix rindex isascii isdecimal isnumeric istitle isidentifier isprintable
translate maketrans encode decode hex add discard format from_iterable appendleft popleft extendleft rotate from_bytes
__init__ setter""".split())
FREE_LOCALS = {"object", "id", "format", "credits", "license", "copyright", "quit", "callable", "complex", "ascii",
               "oct", "memoryview", "aiter", "anext"}
TAKES_LISTS = {"any", "all", "min", "max", "sum", "sorted"}
AT_ONCE = {"list", "tuple", "dict", "sorted", "sum", "any", "all", "enumerate", "zip", "bytes", "min", "max",
           "reversed", "len", "iter"}
STORED = {"zip", "enumerate", "reversed", "range"}
BARRED = ("mro", "elements", "open", "input", "law", "version_info", "with_traceback", "add_note", "eval", "exec",
          "compile", "globals", "locals", "vars", "dir", "help", "exit", "breakpoint", "importlib", "gc", "os",
          "builtins", "delattr", "attrgetter", "methodcaller")
NO_BEGINNINGS = ("_wall", "_pe_", "_dcw_", "_enum_", "_cm_", "_twin_re_", "_lay_", "_law_", "_stub_", "_sre",
                 "_WallAttr")
NO_NAMES = ("_cold", "_tuplegetter", "_outside", "_record", "_written_out", "_member_names")
DOUBLE = set("""__init__ __eq__ __repr__ __str__ __len__ __enter__ __exit__ __call__ __iter__ __lt__ __le__ __gt__ __ge__
__ne__ __add__ __sub__ __mul__ __floordiv__ __mod__ __pow__ __and__ __or__ __xor__ __lshift__ __rshift__ __neg__ __pos__
__invert__ __abs__ __bool__ __contains__ __getitem__ __setitem__ __all__ __version__ __name__""".split())


class File:
    """One file of the package, and what is found in it."""

    def __init__(self, path, package):
        with open(path, encoding="utf-8") as stream:
            self.text = stream.read()
        self.path, self.package = path, package
        self.stem = os.path.basename(path)[:-3]
        self.tree = ast.parse(self.text)
        self.found = []
        for node in ast.walk(self.tree):
            for child in ast.iter_child_nodes(node):
                child.above = node
        self.imports = [node for node in self.tree.body if isinstance(node, ast.ImportFrom)]
        self.classes = [node for node in self.tree.body if isinstance(node, ast.ClassDef)]
        self.functions = [node for node in ast.walk(self.tree) if isinstance(node, ast.FunctionDef)]

    def say(self, rule, node, words):
        line = node if isinstance(node, int) else getattr(node, "lineno", 0)
        self.found.append(f"{self.path}:{line}: {rule}: {words}")

    def bound(self):
        """The names that are bound at module level, each as often as it is."""
        names = [one.asname or one.name for node in self.imports for one in node.names]
        for node in self.tree.body:
            if isinstance(node, (ast.FunctionDef, ast.ClassDef)):
                names.append(node.name)
            if isinstance(node, ast.Assign):
                names += [target.id for target in node.targets if isinstance(target, ast.Name)]
        return names


def look_at_lines(file):
    lines = file.text.split("\n")
    if len(lines) > 400:
        file.say("L10", 400, "a file has at most 399 lines")
    for at, line in enumerate(lines, 1):
        if len(line) > 120:
            file.say("L10", at, "a line has at most 120 characters")
        if "\t" in line:
            file.say("L10", at, "no tabs")
        if any(not " " <= sign <= "~" for sign in line):
            file.say("L14", at, "a sign beyond those from the space to ~")
    for node in file.functions:
        if node.end_lineno - node.lineno + 1 > 40:
            file.say("L10", node, "a function has at most 40 lines")


def look_at_imports(file, files):
    for node in ast.walk(file.tree):
        if isinstance(node, ast.Import) and not (file.stem == "__main__" and node.names[0].name == "sys"):
            file.say("L16", node, "an import has the form from .. import ..")
        if not isinstance(node, ast.ImportFrom):
            continue
        if node.above is not file.tree or node.level:
            file.say("L2", node, "imports stand at the top, by full names")
        if node.module in LIBRARY:
            names = {one.name for one in node.names}
            if names - LIBRARY[node.module] or any(one.asname for one in node.names):
                file.say("L2", node, "not among the words of the library")
            continue
        stem = node.module.split(".")[-1]
        if not node.module.startswith(file.package + ".") or stem not in files:
            file.say("L2", node, "imports are from files of the package")
            continue
        there = files[stem]
        defined = set(there.bound()) - {one.name for more in there.imports for one in more.names}
        for one in node.names:
            if one.name not in defined:
                file.say("L16", node, f"{one.name} is not defined in {stem}.py")


def look_for_circles(files):
    def reached(stem, seen):
        for node in files[stem].imports:
            near = node.module.split(".")[-1]
            if near in files and near not in seen:
                seen.add(near)
                reached(near, seen)
        return seen
    for stem, file in files.items():
        if stem in reached(stem, set()):
            file.say("L16", 1, "files import from each other")


def look_at_top(file):
    body = file.tree.body
    for at, node in enumerate(body):
        plain = isinstance(node, (ast.ImportFrom, ast.Import, ast.FunctionDef, ast.ClassDef, ast.Assign))
        doc = at == 0 and isinstance(node, ast.Expr) and isinstance(node.value, ast.Constant)
        main = file.stem == "__main__" and isinstance(node, ast.If)
        if not plain and not doc and not main:
            file.say("L3", node, "this does not stand at module level")
        if isinstance(node, ast.Assign) and (len(node.targets) > 1 or not isinstance(node.targets[0], ast.Name)):
            file.say("L3", node, "one name for each assignment at module level")
    names = file.bound()
    for name in names:
        if names.count(name) > 1:
            file.say("L15", 1, f"{name} is bound more than once")


def local_names(node):
    """The parameters and what a function assigns, with the nodes."""
    args = node.args
    for one in args.posonlyargs + args.args + args.kwonlyargs + [args.vararg, args.kwarg]:
        if one:
            yield one.arg, one
    for one in ast.walk(node):
        if isinstance(one, ast.Name) and isinstance(one.ctx, ast.Store):
            yield one.id, one


def look_at_names(file):
    taken = {one.asname or one.name for node in file.imports for one in node.names}
    taken |= {node.name for node in file.classes}
    for node in file.functions:
        for name, where in local_names(node):
            if name in taken:
                file.say("L15", where, f"{name} is a class or an import of the file")
            if hasattr(builtins, name) and name not in FREE_LOCALS:
                file.say("L15", where, f"{name} is a builtin")
            if name in BARRED or name.startswith("__") or not name.isascii():
                file.say("L17", where, f"{name} is not used as a name")
    for name in file.bound():
        if hasattr(builtins, name) or name in BARRED:
            file.say("L15", 1, f"{name} is a builtin or a barred name")


def all_names(node):
    """Each name that the node has, as what it may be."""
    if isinstance(node, ast.Name):
        yield node.id
    if isinstance(node, (ast.FunctionDef, ast.ClassDef)):
        yield node.name
    if isinstance(node, ast.arg):
        yield node.arg
    if isinstance(node, ast.Attribute):
        yield node.attr
    if isinstance(node, ast.keyword) and node.arg:
        yield node.arg
    if isinstance(node, ast.alias):
        yield from node.name.split(".") + ([node.asname] if node.asname else [])
    if isinstance(node, ast.ImportFrom) and node.module:
        yield from node.module.split(".")
    if isinstance(node, ast.ExceptHandler) and node.name:
        yield node.name
    if isinstance(node, (ast.Global, ast.Nonlocal)):
        yield from node.names
    if isinstance(node, (ast.MatchAs, ast.MatchStar)) and node.name:
        yield node.name


def breaks_l12(name):
    """Whether L12 lets no name be such (what it lets as attributes alone is not let at all here)."""
    if name in ("_", "__future__") or name in DOUBLE:
        return False
    plain = all(sign.isascii() and (sign.isalnum() or sign == "_") for sign in name)
    first = name[1:2] if name.startswith("_") else name[:1]
    bare = name.rstrip("_0123456789")
    return not plain or not first.isalpha() or name.startswith(NO_BEGINNINGS) or bare in NO_NAMES


def look_at_plain_names(file):
    for node in ast.walk(file.tree):
        for name in all_names(node):
            if breaks_l12(name):
                file.say("L12", node, f"{name} is no name that may stand")
        if isinstance(node, ast.ClassDef) and node.name.startswith("_"):
            file.say("L12", node, "the name of a class begins with a letter")
        if isinstance(node, ast.Name) and node.id == "_" and isinstance(node.ctx, ast.Load):
            file.say("L12", node, "_ is never read")
    for at, line in enumerate(file.text.split("\n"), 1):
        if "_wall" in line or "_WallAttr" in line:
            file.say("L12", at, "a word that stands nowhere")


def look_at_node(file, node, methods):
    if isinstance(node, (ast.AsyncFunctionDef, ast.Await, ast.AsyncFor, ast.AsyncWith)):
        file.say("L6", node, "no async")
    if isinstance(node, ast.Constant) and isinstance(node.value, (float, complex)):
        file.say("L7", node, "no float")
    if isinstance(node, (ast.BinOp, ast.AugAssign)) and isinstance(node.op, (ast.Div, ast.MatMult)):
        file.say("L7", node, "no / and no @")
    if isinstance(node, ast.BinOp) and isinstance(node.op, ast.Pow):
        power = node.right.value if isinstance(node.right, ast.Constant) else -1
        if not isinstance(power, int) or not 0 <= power <= 64:
            file.say("L27", node, "an exponent is a literal from 0 to 64")
    if isinstance(node, ast.Name) and isinstance(node.ctx, ast.Load) and hasattr(builtins, node.id):
        if node.id not in ALLOWED_BUILTINS:
            file.say("L8", node, f"{node.id} is not used")
    if isinstance(node, ast.Compare) and any(isinstance(op, (ast.Is, ast.IsNot)) for op in node.ops):
        sides = [node.left] + node.comparators
        if not any(isinstance(side, ast.Constant) and side.value in (None, True, False) for side in sides):
            if not any(isinstance(side, ast.Call) or isinstance(side, ast.Name) for side in sides):
                file.say("L20", node, "is, between what is not None, True or False")
    if isinstance(node, ast.Call):
        look_at_call(file, node, methods)
    if isinstance(node, ast.Raise) and node.exc is not None:
        if not isinstance(node.exc, ast.Call) or not isinstance(node.exc.func, ast.Name):
            file.say("L19", node, "raise creates its error on the spot")
    if isinstance(node, ast.ExceptHandler) and node.type is None:
        file.say("L6", node, "except of named classes")
    if isinstance(node, ast.Global) and not isinstance(node.above, ast.FunctionDef):
        file.say("L6", node, "global is the first line of a function")


def look_at_call(file, node, methods):
    if isinstance(node.func, ast.Attribute) and node.func.attr not in BUILTIN_METHODS | methods:
        file.say("L25", node, f"{node.func.attr} is no method that is used")
    if isinstance(node.func, ast.Attribute) and node.func.attr == "sort":
        file.say("L25", node, "no sort where a class has __eq__")
    name = node.func.id if isinstance(node.func, ast.Name) else ""
    if name in TAKES_LISTS and any(isinstance(one, ast.GeneratorExp) for one in node.args):
        file.say("L7", node, f"{name} takes a list where a class has __eq__")
    at = node.above
    if name in STORED or (isinstance(node.func, ast.Attribute) and node.func.attr in ("items", "keys", "values")):
        over = isinstance(at, (ast.For, ast.comprehension, ast.Compare, ast.Subscript, ast.YieldFrom))
        given = isinstance(at, ast.Call) and (
            (isinstance(at.func, ast.Name) and at.func.id in AT_ONCE | {"deque", "map", "chain", "product", "combinations"})
            or (isinstance(at.func, ast.Attribute) and at.func.attr == "join"))
        if not over and not given and not isinstance(at, ast.Assign):
            file.say("L23", node, "this is iterated at once")
    if name == "set":
        fine = isinstance(at, (ast.Compare, ast.Assign, ast.BinOp)) or (
            isinstance(at, ast.Call) and isinstance(at.func, ast.Name) and at.func.id in ("sorted", "len"))
        if not fine:
            file.say("L24", node, "a set stands in sorted(..), in len(..) or beside a comparison")


def is_only_read(node):
    """Whether a list or dict of module level is but read here: by an index, by iteration, by in, by its own methods."""
    at = node.above
    if isinstance(at, ast.Attribute):
        return at.attr in ("get", "items", "keys", "values", "index", "count")
    if isinstance(at, ast.Call):
        return isinstance(at.func, ast.Name) and at.func.id in AT_ONCE | {"set"}
    if isinstance(at, ast.Subscript):
        return isinstance(at.ctx, ast.Load)
    return isinstance(at, (ast.Compare, ast.For, ast.comprehension))


def look_at_tables(file):
    tables = {node.targets[0].id for node in file.tree.body
              if isinstance(node, ast.Assign) and isinstance(node.value, (ast.List, ast.Dict))}
    for node in ast.walk(file.tree):
        if isinstance(node, ast.Name) and node.id in tables and isinstance(node.ctx, ast.Load) and not is_only_read(node):
            file.say("L15", node, f"{node.id} is only read, or passed on as a copy")


def look_at_strings(file):
    docs = set()
    for node in ast.walk(file.tree):
        if isinstance(node, (ast.Module, ast.ClassDef, ast.FunctionDef)) and ast.get_docstring(node) is not None:
            docs.add(node.body[0].value)
    for node in ast.walk(file.tree):
        if isinstance(node, ast.Constant) and isinstance(node.value, str) and node not in docs:
            if any(not (sign == "\n" or sign == "\t" or " " <= sign <= "~") for sign in node.value):
                file.say("L27", node, "no escape but a few")


def main(folder):
    package = os.path.basename(os.path.normpath(folder))
    names = sorted(name for name in os.listdir(folder) if name != "__pycache__")
    odd = [name for name in names if not name.endswith(".py") or name != name.lower()]
    files = {name[:-3]: File(os.path.join(folder, name), package) for name in names if name not in odd}
    methods = {node.name for file in files.values() for one in file.classes for node in one.body
               if isinstance(node, ast.FunctionDef)}
    look_for_circles(files)
    for file in files.values():
        look_at_lines(file)
        look_at_imports(file, files)
        look_at_top(file)
        look_at_names(file)
        look_at_plain_names(file)
        look_at_strings(file)
        look_at_tables(file)
        for node in ast.walk(file.tree):
            look_at_node(file, node, methods)
    found = [f"{folder}: L1: {name} is no file of a package" for name in odd]
    found += [line for file in files.values() for line in file.found]
    if "__init__" not in files or len(files) > 100:
        found.append(f"{folder}: L14: an __init__.py, and at most 100 files")
    print("\n".join(found) if found else f"{len(files)} files keep what can be told of LANGUAGE.md")
    return 1 if found else 0


if __name__ == "__main__":
    sys.exit(main(sys.argv[1]))
