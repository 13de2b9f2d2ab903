"""A reader of the package's own code, which finds what LANGUAGE.md does not let by.

It asks the rules that can be seen in the syntax tree of one file, or of all files together.
"""

import ast
import builtins
import io
import os
import re
import tokenize

PACKAGE = "listasks"
ALLOWED_BUILTINS = set(
    "len range enumerate zip min max sum abs sorted reversed int str bool list tuple dict set frozenset"
    " isinstance ord repr any all divmod pow map getattr hasattr setattr iter next super"
    " property staticmethod classmethod"
    " Exception ValueError TypeError KeyError IndexError LookupError ZeroDivisionError ArithmeticError"
    " OverflowError RuntimeError NotImplementedError AttributeError StopIteration NotImplemented".split()
)
BUILTIN_METHODS = set(
    "append clear copy count endswith extend find get index insert isalnum isalpha isdigit islower isspace"
    " isupper items join keys ljust lower lstrip partition pop remove replace reverse rfind rjust rpartition"
    " rsplit rstrip setdefault split splitlines startswith strip update upper values zfill bit_length"
    " title capitalize swapcase casefold center expandtabs removeprefix removesuffix rindex isascii"
    " isdecimal isnumeric istitle isidentifier isprintable add discard".split()
)
CHANGING = {"append", "clear", "extend", "insert", "pop", "remove", "reverse", "setdefault", "update"}
LIBRARY = {
    "heapq": {"heappush", "heappop", "heapify", "heapreplace", "heappushpop"},
    "math": {"gcd", "lcm", "isqrt", "comb", "perm", "factorial"},
    "itertools": {"product", "combinations", "permutations", "chain", "accumulate", "pairwise", "islice",
                  "zip_longest"},
    "collections": {"defaultdict"},
}
BARRED_NAMES = set(
    "register mro elements open input law version_info with_traceback add_note attrgetter breakpoint builtins"
    " compile copyright credits delattr dir eval exec exit gc globals help id importlib license locals"
    " methodcaller os quit type vars sys _cold _tuplegetter _outside _record _written_out _member_names"
    " _wall _WallAttr".split()
)
BARRED_STARTS = ("_wall", "_pe_", "_dcw_", "_enum_", "_cm_", "_twin_re_", "_lay_", "_law_", "_stub_", "_sre",
                 "_WallAttr")
BARRED_WORDS = set(
    "typing typing_extensions enum Enum IntEnum StrEnum Flag IntFlag Generic Protocol ABC ABCMeta namedtuple"
    " NamedTuple TypedDict TYPE_CHECKING abstractmethod dataclass overload contextmanager type".split()
)
BARRED_ATTRIBUTES = set(
    "items keys values pop update append clear extend insert remove reverse setdefault sort args encode decode"
    " hex fromhex format format_map mro as_integer_ratio bit_count conjugate from_bytes is_integer"
    " to_bytes".split()
)
DOUBLE_METHODS = set(
    "__init__ __eq__ __repr__ __str__ __len__ __enter__ __exit__ __call__ __iter__ __lt__ __le__ __gt__ __ge__"
    " __ne__ __add__ __sub__ __mul__ __floordiv__ __mod__ __and__ __or__ __xor__ __neg__ __bool__ __contains__"
    " __getitem__ __setitem__".split()
)
AT_ONCE = {"zip", "enumerate", "reversed", "range", "map"}
VIEWS = {"items", "keys", "values"}
KEPT_ITERATORS = {"iter", "zip", "enumerate", "reversed", "items", "keys", "values"}
COPIERS = {"list", "tuple", "dict", "sorted", "range", "len"}
TAKERS = {"list", "tuple", "dict", "sorted", "sum", "any", "all", "enumerate", "zip", "min", "max"}
FUNCTIONS = (ast.FunctionDef, ast.Lambda)
COMPREHENSIONS = (ast.ListComp, ast.SetComp, ast.DictComp, ast.GeneratorExp)
BARRED_NODES = (
    ast.Global, ast.AsyncFunctionDef, ast.AsyncFor, ast.AsyncWith, ast.Await, ast.Import, ast.AnnAssign,
    ast.NamedExpr, ast.Match, ast.With,
)


class Reader:
    """The faults found in one file."""

    def __init__(self, name, text):
        self.name = name
        self.text = text
        self.tree = ast.parse(text)
        self.faults = []
        self.above = {}
        for node in ast.walk(self.tree):
            for inner in ast.iter_child_nodes(node):
                self.above[inner] = node

    def fault(self, node, rule, words):
        line = node if isinstance(node, int) else getattr(node, "lineno", 0)
        self.faults.append(f"{self.name}:{line}: {rule} {words}")

    def around(self, node):
        while node in self.above:
            node = self.above[node]
            yield node

    def function_around(self, node):
        for outer in self.around(node):
            if isinstance(outer, ast.FunctionDef):
                return outer
        return None

    def top_names(self):
        names = []
        for node in self.tree.body:
            if isinstance(node, (ast.FunctionDef, ast.ClassDef)):
                names.append(node.name)
            elif isinstance(node, ast.Assign):
                names.extend(target.id for target in node.targets if isinstance(target, ast.Name))
        return names

    def imported(self):
        return [alias.name for node in self.tree.body if isinstance(node, ast.ImportFrom) for alias in node.names]


def bound_in(function):
    """The names that a function binds itself: its parameters, targets and nested functions."""
    names = set()
    arguments = function.args
    for argument in arguments.posonlyargs + arguments.args + arguments.kwonlyargs:
        names.add(argument.arg)
    for argument in (arguments.vararg, arguments.kwarg):
        if argument is not None:
            names.add(argument.arg)
    body = function.body if isinstance(function.body, list) else [function.body]
    todo = list(body)
    while todo:
        node = todo.pop()
        if isinstance(node, ast.FunctionDef):
            names.add(node.name)
            continue
        if isinstance(node, (ast.Lambda,)):
            continue
        if isinstance(node, ast.Name) and isinstance(node.ctx, (ast.Store, ast.Del)):
            names.add(node.id)
        if isinstance(node, ast.ExceptHandler) and node.name:
            names.add(node.name)
        todo.extend(ast.iter_child_nodes(node))
    return names


def check_lines(reader):
    lines = reader.text.split("\n")
    if len(lines) - 1 > 399:
        reader.fault(len(lines), "L10", "a file has at most 399 lines")
    for number, line in enumerate(lines, 1):
        if len(line) > 120:
            reader.fault(number, "L10", "a line has at most 120 characters")
        if any(not " " <= sign <= "~" for sign in line):
            reader.fault(number, "L14", "a character outside the blank to ~")
    for token in tokenize.generate_tokens(io.StringIO(reader.text).readline):
        if token.type == tokenize.STRING:
            if re.sub(r"\\[nt\\\"']", "", token.string).count("\\"):
                reader.fault(token.start[0], "L27", "an escape")


def check_nodes(reader):
    for node in ast.walk(reader.tree):
        if isinstance(node, BARRED_NODES):
            reader.fault(node, "L6", f"{type(node).__name__} is not used here")
        if isinstance(node, ast.FunctionDef) and node.end_lineno - node.lineno + 1 > 40:
            reader.fault(node, "L10", "a function has at most 40 lines")
        if isinstance(node, ast.BinOp) and isinstance(node.op, ast.Div):
            reader.fault(node, "L7", "no /")
        if isinstance(node, ast.BinOp) and isinstance(node.op, ast.Pow):
            if not (isinstance(node.right, ast.Constant) and 0 <= node.right.value <= 64):
                reader.fault(node, "L27", "an exponent is a literal")
        if isinstance(node, ast.Constant):
            check_constant(reader, node)
        if isinstance(node, ast.Compare):
            check_compare(reader, node)
        if isinstance(node, ast.ExceptHandler) and node.type is None:
            reader.fault(node, "L6", "a handler names its errors")
        if isinstance(node, ast.ExceptHandler) and node.type is not None:
            for word in ast.walk(node.type):
                if isinstance(word, ast.Name) and word.id not in reader.imported() and word.id != "KeyError":
                    reader.fault(node, "L19", f"{word.id} is caught")
        if isinstance(node, ast.Raise) and node.exc is not None and not isinstance(node.exc, ast.Call):
            reader.fault(node, "L19", "raise creates its error on the spot")


def check_constant(reader, node):
    value = node.value
    if isinstance(value, (float, complex)) or value is ...:
        reader.fault(node, "L7", "a literal of this kind")
    if isinstance(value, str):
        is_docstring = isinstance(reader.above[node], ast.Expr)
        if "%" in value:
            reader.fault(node, "L27", "the percent sign in a string")
        if value.endswith(("._", ".__")) or re.fullmatch("__.*__", value):
            reader.fault(node, "L27", "the end of a string")
        if not is_docstring and set(re.findall(r"\w+", value)) & (BARRED_WORDS - {"type"}):
            reader.fault(node, "L17", "a barred word in a string")


def check_compare(reader, node):
    for sign, right in zip(node.ops, node.comparators):
        if isinstance(sign, (ast.Is, ast.IsNot)):
            sides = [node.left, right]
            if not any(isinstance(side, ast.Constant) and side.value in (None, True, False) for side in sides):
                reader.fault(node, "L20", "is beside another thing")


def is_plain(node, functions):
    if isinstance(node, ast.Constant):
        return True
    if isinstance(node, ast.Name):
        return node.id in functions
    if isinstance(node, ast.UnaryOp):
        return is_plain(node.operand, functions)
    if isinstance(node, ast.BinOp):
        return is_plain(node.left, ()) and is_plain(node.right, ())
    if isinstance(node, (ast.List, ast.Tuple)):
        return all(not isinstance(item, (ast.List, ast.Dict)) and is_plain(item, functions) for item in node.elts)
    if isinstance(node, ast.Dict):
        inner = node.keys + node.values
        return all(item is not None and not isinstance(item, (ast.List, ast.Dict)) and is_plain(item, functions)
                   for item in inner)
    return False


def check_top(reader):
    functions = []
    for at, node in enumerate(reader.tree.body):
        if isinstance(node, ast.Expr) and at == 0 and isinstance(node.value, ast.Constant):
            continue
        if isinstance(node, ast.FunctionDef):
            functions.append(node.name)
            if node.decorator_list:
                reader.fault(node, "L4", "a decorator")
        elif isinstance(node, ast.Assign):
            if len(node.targets) != 1 or not isinstance(node.targets[0], ast.Name):
                reader.fault(node, "L3", "a name for each statement")
            if not is_plain(node.value, functions):
                reader.fault(node, "L3", "no plain value")
        elif not isinstance(node, (ast.ImportFrom, ast.ClassDef)):
            reader.fault(node, "L3", "a statement at module level")
    names = reader.top_names() + reader.imported()
    for name in set(names):
        if names.count(name) > 1:
            reader.fault(0, "L15", f"{name} is bound twice")
    read = {node.id for node in ast.walk(reader.tree) if isinstance(node, ast.Name)}
    for name in reader.imported():
        if name not in read:
            reader.fault(0, "L2", f"{name} is imported and not used")


def check_classes(reader):
    for node in ast.walk(reader.tree):
        if isinstance(node, ast.ClassDef):
            if reader.above[node] is not reader.tree or node.decorator_list or node.keywords:
                reader.fault(node, "L5", "a class")
            for inner in node.body:
                if isinstance(inner, ast.FunctionDef):
                    check_method(reader, inner)
                elif not (isinstance(inner, ast.Expr) and isinstance(inner.value, ast.Constant)):
                    reader.fault(inner, "L5", "a statement in a class")


def check_method(reader, node):
    for mark in node.decorator_list:
        if not isinstance(mark, ast.Name) or mark.id not in ("property", "staticmethod", "classmethod"):
            reader.fault(node, "L4", "a decorator")
    if node.name.startswith("__") and node.name not in DOUBLE_METHODS:
        reader.fault(node, "L5", f"the method {node.name}")
    if node.name == "__len__":
        for inner in ast.walk(node):
            if isinstance(inner, ast.Return):
                if not (isinstance(inner.value, ast.Call) and getattr(inner.value.func, "id", "") == "len"):
                    reader.fault(node, "L28", "each return of __len__ is len(..)")
    if node.name == "__eq__":
        rows = [row for row in node.body if not isinstance(row, ast.Expr)]
        parts = rows[0].value.values if len(rows) == 1 and isinstance(rows[0], ast.Return) else [None]
        if not (isinstance(parts[0], ast.Call) and all(isinstance(part, ast.Compare) for part in parts[1:])):
            reader.fault(node, "L28", "__eq__ in another form")


def check_names(reader):
    known = set(dir(builtins))
    classes = {node.name for node in reader.tree.body if isinstance(node, ast.ClassDef)}
    barred_here = classes | set(reader.imported())
    for node in ast.walk(reader.tree):
        names = []
        if isinstance(node, ast.FunctionDef):
            names = [] if node.name in DOUBLE_METHODS else [node.name]
        if isinstance(node, FUNCTIONS):
            names = names + [name for name in bound_in(node)]
            for name in bound_in(node):
                if name in barred_here:
                    reader.fault(node, "L15", f"{name} is a class or an import of the file")
        if isinstance(node, ast.ClassDef):
            names = [node.name]
        if isinstance(node, ast.Attribute) and isinstance(node.ctx, ast.Store):
            if node.attr in BARRED_ATTRIBUTES or not re.fullmatch("_?[A-Za-z][A-Za-z0-9_]*", node.attr):
                reader.fault(node, "L26", f"the attribute {node.attr}")
        if isinstance(node, ast.Name) and node.id == "_" and isinstance(node.ctx, ast.Load):
            reader.fault(node, "L12", "_ is read")
        for name in names:
            if name != "_" and not re.fullmatch("_?[A-Za-z][A-Za-z0-9_]*", name):
                reader.fault(node, "L12", f"the name {name}")
            if name in BARRED_NAMES or name in BARRED_WORDS or name.startswith(BARRED_STARTS):
                reader.fault(node, "L17", f"the name {name}")
            if name in known:
                reader.fault(node, "L15", f"{name} is the name of a builtin")
    for name in reader.top_names():
        if name in known or name in BARRED_NAMES or name in BARRED_WORDS:
            reader.fault(0, "L15", f"{name} at module level")


def check_reads(reader):
    """Names that are read are bound around, or are builtins that L8 lists."""
    top = set(reader.top_names()) | set(reader.imported())
    for node in ast.walk(reader.tree):
        if isinstance(node, ast.Name) and isinstance(node.ctx, ast.Load) and node.id not in top:
            bound = any(node.id in bound_in(outer) for outer in reader.around(node) if isinstance(outer, FUNCTIONS))
            if not bound and node.id not in ALLOWED_BUILTINS:
                reader.fault(node, "L8", f"the name {node.id}")


def called(node):
    """The name by which a call calls, or None."""
    if isinstance(node, ast.Call):
        if isinstance(node.func, ast.Name):
            return node.func.id
        if isinstance(node.func, ast.Attribute):
            return node.func.attr
    return None


def stands_at_once(reader, node, takers):
    """Whether what the node gives is iterated on the spot."""
    above = reader.above[node]
    if isinstance(above, (ast.For, ast.comprehension)) and above.iter is node:
        return True
    if isinstance(above, ast.YieldFrom):
        return True
    if isinstance(above, ast.Call) and node in above.args:
        if isinstance(above.func, ast.Name):
            return above.func.id in takers
        return above.func.attr == "join" and isinstance(above.func.value, ast.Constant)
    return False


def check_calls(reader, methods, generators):
    for node in ast.walk(reader.tree):
        if not isinstance(node, ast.Call):
            continue
        name = called(node)
        if isinstance(node.func, ast.Name):
            if name in AT_ONCE and not stands_at_once(reader, node, TAKERS):
                if not (name == "range" and called(reader.above[node]) == "reversed"):
                    reader.fault(node, "L23", f"{name} is kept")
            if name in generators and not stands_at_once(reader, node, {"list", "tuple", "dict"}):
                reader.fault(node, "L23", f"the generator {name} is kept")
            check_keywords(reader, node, name)
        elif isinstance(node.func, ast.Attribute):
            if name in VIEWS and not stands_at_once(reader, node, TAKERS):
                reader.fault(node, "L23", f"{name} is kept")
            if name not in BUILTIN_METHODS and name not in methods:
                reader.fault(node, "L25", f"the method {name}")
            if name in BUILTIN_METHODS and node.keywords:
                reader.fault(node, "L25", f"a keyword with {name}")
        else:
            reader.fault(node, "L7", "a call of what is no name")
        for argument in node.args:
            if isinstance(argument, ast.Starred) and not isinstance(argument.value, (ast.Name, ast.Attribute)):
                reader.fault(node, "L7", "a star before what is no name")
            if isinstance(argument, ast.Attribute) and argument.attr in methods:
                reader.fault(node, "L25", f"the method {argument.attr} is passed on")


def check_keywords(reader, node, name):
    allowed = {"sorted": {"key", "reverse"}, "min": {"key", "default"}, "max": {"key", "default"},
               "sum": {"start"}, "enumerate": {"start"}, "zip": {"strict"}}
    if name in ALLOWED_BUILTINS:
        for keyword in node.keywords:
            if keyword.arg not in allowed.get(name, ()):
                reader.fault(node, "L22", f"a keyword of {name}")


def check_generator_expressions(reader):
    for node in ast.walk(reader.tree):
        if isinstance(node, ast.GeneratorExp) and not stands_at_once(reader, node, {"list", "tuple", "dict"}):
            reader.fault(node, "L7", "a generator expression")
        if isinstance(node, COMPREHENSIONS) and reader.function_around(node) is None:
            reader.fault(node, "L7", "a comprehension at module level")
        if isinstance(node, COMPREHENSIONS):
            check_comprehension_names(reader, node)


def targets_of(node):
    names = set()
    for part in node.generators:
        for inner in ast.walk(part.target):
            if isinstance(inner, ast.Name) and inner.id != "_":
                names.add(inner.id)
    return names


def check_comprehension_names(reader, node):
    """Inside another comprehension, a lambda or a nested function, a variable has a name of its own."""
    inside = False
    for outer in reader.around(node):
        if isinstance(outer, COMPREHENSIONS):
            inside = True
            if targets_of(outer) & targets_of(node):
                reader.fault(node, "L7", "a variable of a comprehension around it")
        if isinstance(outer, FUNCTIONS):
            if inside or isinstance(outer, ast.Lambda):
                own = bound_in(outer) if isinstance(outer, ast.Lambda) else plain_locals(outer)
                if own & targets_of(node):
                    reader.fault(node, "L7", "a variable of the function around it")
            inside = True


def plain_locals(function):
    """The parameters and targets of a function outside of its comprehensions."""
    names = {argument.arg for argument in function.args.args}
    todo = list(function.body)
    while todo:
        node = todo.pop()
        if isinstance(node, COMPREHENSIONS + (ast.Lambda, ast.FunctionDef)):
            continue
        if isinstance(node, ast.Name) and isinstance(node.ctx, ast.Store) and node.id != "_":
            names.add(node.id)
        todo.extend(ast.iter_child_nodes(node))
    return names


def check_sets(reader):
    for node in ast.walk(reader.tree):
        is_set = isinstance(node, (ast.Set, ast.SetComp)) or called(node) == "set"
        if not is_set:
            continue
        above = reader.above[node]
        stored = isinstance(above, ast.Assign) and isinstance(above.targets[0], ast.Name)
        compared = isinstance(above, ast.Compare)
        if stored:
            check_stored_set(reader, node, above.targets[0].id)
        elif not compared and called(above) not in ("sorted", "len"):
            reader.fault(node, "L24", "a set")


def check_stored_set(reader, node, name):
    function = reader.function_around(node)
    for inner in ast.walk(function):
        if isinstance(inner, ast.Name) and inner.id == name:
            above = reader.above[inner]
            good = isinstance(above, (ast.Assign, ast.Compare, ast.If, ast.While)) or (
                isinstance(above, ast.Attribute) and above.attr in ("add", "discard")) or (
                called(above) in ("sorted", "len"))
            if not good:
                reader.fault(inner, "L24", f"the stored set {name}")


def spelled(node):
    return ast.unparse(node)


def check_loops(reader):
    """What a loop iterates over is not modified in it."""
    for node in ast.walk(reader.tree):
        if not isinstance(node, ast.For):
            continue
        over = node.iter
        while called(over) in ("enumerate", "zip", "reversed", "items", "keys", "values"):
            over = over.func.value if isinstance(over.func, ast.Attribute) else over.args[0]
        if not isinstance(over, (ast.Name, ast.Attribute, ast.Subscript)):
            continue
        held = spelled(over)
        for row in node.body:
            for inner in ast.walk(row):
                if isinstance(inner, ast.Call) and isinstance(inner.func, ast.Attribute):
                    if inner.func.attr in CHANGING and spelled(inner.func.value) == held:
                        reader.fault(inner, "L23", f"{held} is modified in its loop")
                if isinstance(inner, ast.Subscript) and isinstance(inner.ctx, (ast.Store, ast.Del)):
                    if spelled(inner.value) == held:
                        reader.fault(inner, "L23", f"{held} is modified in its loop")


def walked_names(node):
    """The names whose things, or what stands in them, a loop over the node walks; a copy in it is another thing."""
    if called(node) in COPIERS and isinstance(node.func, ast.Name):
        return set()
    if isinstance(node, ast.Call) and isinstance(node.func, ast.Name):
        parts = node.args + [keyword.value for keyword in node.keywords]
    elif isinstance(node, ast.Lambda) or isinstance(node, COMPREHENSIONS):
        parts = []
    else:
        parts = list(ast.iter_child_nodes(node))
    names = {node.id} if isinstance(node, ast.Name) else set()
    return names.union(*[walked_names(part) for part in parts])


def base_name(node):
    """The name off which an attribute, an item or a choice of these is read, or None."""
    while isinstance(node, (ast.Attribute, ast.Subscript)):
        node = node.value
    return node.id if isinstance(node, ast.Name) else None


def changed_names(rows):
    """List (name, node) of what these rows change, by its name, a field, an item or a call that modifies."""
    found = []
    for inner in [node for row in rows for node in ast.walk(row)]:
        if isinstance(inner, (ast.Name, ast.Attribute, ast.Subscript)) and isinstance(inner.ctx, (ast.Store, ast.Del)):
            found.append((base_name(inner), inner))
        if isinstance(inner, ast.Call) and isinstance(inner.func, ast.Attribute):
            if inner.func.attr in CHANGING | {"sort", "add", "discard"}:
                found.append((base_name(inner.func.value), inner))
    return found


def check_walked(reader):
    """Where objects can be iterated over, what a loop's head names is not changed in the loop."""
    for node in ast.walk(reader.tree):
        if called(node) in ("extend", "update") and isinstance(node.func, ast.Attribute):
            if node.args and base_name(node.func.value) in walked_names(node.args[0]):
                reader.fault(node, "L5", f"{node.func.attr} gets what it changes")
        if isinstance(node, ast.For):
            walked = walked_names(node.iter)
            for name, inner in changed_names(node.body):
                if name in walked:
                    reader.fault(inner, "L5", f"{name}, which a loop around walks, is changed in it")
        if isinstance(node, ast.Assign) and called(node.value) in KEPT_ITERATORS:
            walked = walked_names(node.value)
            for name, inner in changed_names(reader.function_around(node).body):
                if name in walked and inner.lineno > node.lineno:
                    reader.fault(inner, "L5", f"{name}, which a kept iterator walks, is changed in its function")
        if isinstance(node, COMPREHENSIONS):
            walked = set().union(*[walked_names(part.iter) for part in node.generators])
            rows = [part for part in ast.iter_child_nodes(node) if not isinstance(part, ast.comprehension)]
            rows.extend(test for part in node.generators for test in part.ifs)
            for name, inner in changed_names(rows):
                if name in walked:
                    reader.fault(inner, "L5", f"{name}, which a comprehension walks, is changed in it")


def check_lambdas(reader):
    seen = {}
    for node in ast.walk(reader.tree):
        if isinstance(node, ast.Lambda):
            key = (node.lineno, tuple(argument.arg for argument in node.args.args))
            if key in seen:
                reader.fault(node, "L13", "two lambdas on one line")
            seen[key] = True


def check_imports(readers):
    defined = {reader.name[:-3]: set(reader.top_names()) for reader in readers}
    needs = {}
    for reader in readers:
        needs[reader.name[:-3]] = []
        for node in reader.tree.body:
            if not isinstance(node, ast.ImportFrom):
                continue
            names = {alias.name for alias in node.names}
            if node.level or any(alias.asname for alias in node.names):
                reader.fault(node, "L2", "an import")
            elif node.module in LIBRARY:
                if not names <= LIBRARY[node.module]:
                    reader.fault(node, "L2", "a word of the library")
            elif not node.module.startswith(PACKAGE + ".") or node.module[len(PACKAGE) + 1:] not in defined:
                reader.fault(node, "L2", f"an import from {node.module}")
            else:
                module = node.module[len(PACKAGE) + 1:]
                needs[reader.name[:-3]].append(module)
                for name in names - defined[module]:
                    reader.fault(node, "L16", f"{name} is not defined in {module}")
    for start in needs:
        todo = list(needs[start])
        seen = set()
        while todo:
            module = todo.pop()
            if module == start:
                readers[0].fault(0, "L16", f"{start} imports itself through others")
                break
            if module not in seen:
                seen.add(module)
                todo.extend(needs[module])


def is_property(function):
    return any(isinstance(mark, ast.Name) and mark.id == "property" for mark in function.decorator_list)


def check_properties(reader, methods, properties):
    """A property is read off objects, changes nothing, and calls nothing here."""
    for name in methods & properties:
        reader.fault(0, "L5", f"{name} is a method and a property")
    for node in ast.walk(reader.tree):
        if isinstance(node, ast.Call) and isinstance(node.func, ast.Attribute) and node.func.attr in properties:
            reader.fault(node, "L5", f"the property {node.func.attr} is called")
        if isinstance(node, ast.Attribute) and node.attr in properties and isinstance(node.ctx, ast.Store):
            reader.fault(node, "L5", f"the property {node.attr} is assigned")
        if isinstance(node, ast.FunctionDef) and is_property(node):
            inner = list(ast.walk(node))
            calls = [called(part) for part in inner if isinstance(part, ast.Call)]
            if calls != ["len"] * len(calls) or any(isinstance(part, (ast.Assign, ast.AugAssign)) for part in inner):
                reader.fault(node, "L5", f"the property {node.name} does more than read")


def check_attributes(readers, methods, properties):
    """No name is a method and an attribute, and what is read off an object is assigned somewhere."""
    assigned = set(properties)
    for reader in readers:
        for node in ast.walk(reader.tree):
            if isinstance(node, ast.Attribute) and isinstance(node.ctx, ast.Store):
                assigned.add(node.attr)
                if node.attr in methods:
                    reader.fault(node, "L18", f"{node.attr} is a method and an attribute")
    for reader in readers:
        for node in ast.walk(reader.tree):
            if isinstance(node, ast.Attribute) and isinstance(node.ctx, ast.Load) and node.attr not in assigned:
                above = reader.above[node]
                if not (isinstance(above, ast.Call) and above.func is node):
                    reader.fault(node, "L18", f"the attribute {node.attr} is not assigned anywhere")


def check_folder(names, fault):
    for name in names:
        if not re.fullmatch(r"(__init__|__main__|[a-z][a-z0-9_]*)\.py", name):
            fault(0, "L1", f"the file {name}")
        if name[:-3] in dir(builtins) or name[:-3] in BARRED_NAMES or name.startswith(("test", "law_")):
            fault(0, "L14", f"the file {name}")


def faults_of(sources):
    """List the faults of a package, given as a dict from names of files to texts."""
    readers = [Reader(name, sources[name]) for name in sorted(sources)]
    methods = set()
    properties = set()
    generators = set()
    for reader in readers:
        for node in ast.walk(reader.tree):
            if isinstance(node, ast.FunctionDef):
                if isinstance(reader.above[node], ast.ClassDef):
                    (properties if is_property(node) else methods).add(node.name)
                inner = [part for row in node.body for part in ast.walk(row)]
                if any(isinstance(part, (ast.Yield, ast.YieldFrom)) for part in inner):
                    generators.add(node.name)
    check_folder(sorted(sources), readers[0].fault)
    check_imports(readers)
    check_attributes(readers, methods, properties)
    for reader in readers:
        check_lines(reader)
        check_nodes(reader)
        check_top(reader)
        check_classes(reader)
        check_names(reader)
        check_reads(reader)
        check_calls(reader, methods, generators)
        check_properties(reader, methods, properties)
        check_generator_expressions(reader)
        check_sets(reader)
        check_loops(reader)
        if any("__iter__" in other.text for other in readers):
            check_walked(reader)
        check_lambdas(reader)
    return [fault for reader in readers for fault in reader.faults]


def package_sources(folder):
    sources = {}
    for name in sorted(os.listdir(folder)):
        if name == "__pycache__":
            continue
        with open(os.path.join(folder, name), encoding="utf-8") as file:
            sources[name] = file.read()
    return sources
