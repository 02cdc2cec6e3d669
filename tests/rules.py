"""What of ../shared/LANGUAGE.md can be seen in a file without running it: each fault with its rule and line.

`faults(sources)` takes a dict of file names and texts, as the package has them.
"""

import ast
import builtins
import io
import re
import tokenize

PACKAGE = "rowalone"
# An interactive session, and doctest like one, adds `_` to the builtins.
PYTHON = set(dir(builtins)) - {"_"}
LIBRARY = {"math": ("gcd", "lcm", "isqrt", "comb", "perm", "factorial"),
           "itertools": ("product", "combinations", "permutations"),
           "heapq": ("heappush", "heappop", "heapify", "heapreplace", "heappushpop")}
BUILTINS = set("""len range enumerate zip min max sum abs sorted reversed int str bool bytes list tuple dict set
    frozenset isinstance ord repr any all divmod pow getattr hasattr setattr Exception ValueError TypeError KeyError
    IndexError LookupError ZeroDivisionError ArithmeticError OverflowError RuntimeError NotImplementedError
    AttributeError StopIteration NotImplemented iter next map property staticmethod classmethod super""".split())
METHODS = set("""append clear copy count endswith extend find get index insert isalnum isalpha isdigit islower isspace
    isupper items join keys ljust lower lstrip partition pop remove replace reverse rfind rjust rpartition rsplit
    rstrip setdefault split splitlines startswith strip update upper values zfill bit_length sort""".split())
CHANGING = set("append clear extend insert pop remove reverse setdefault update sort add discard".split())
DOUBLE = set("__init__ __eq__ __repr__ __str__ __len__".split())
STATEMENTS = (ast.Assign, ast.AugAssign, ast.If, ast.While, ast.For, ast.Return, ast.Break, ast.Continue, ast.Pass,
              ast.Raise, ast.Assert, ast.Delete, ast.Nonlocal, ast.With, ast.Try, ast.Expr, ast.FunctionDef)
AT_ONCE = set("list tuple dict sorted sum any all enumerate zip bytes min max".split())
BARRED = set("register mro elements open input law version_info with_traceback add_note".split())
BARRED_NAMES = set("""attrgetter breakpoint builtins compile copyright credits delattr dir eval exec exit gc globals
    help id importlib license locals methodcaller os quit type vars sys""".split())
BARRED_WORDS = set("""type typing typing_extensions enum Enum IntEnum StrEnum Flag IntFlag Generic Protocol ABC ABCMeta
    namedtuple NamedTuple TypedDict TYPE_CHECKING abstractmethod""".split())
BARRED_ATTRIBUTES = set("""items keys values pop update append clear extend insert remove reverse setdefault sort args
    encode decode hex fromhex format format_map mro as_integer_ratio bit_count conjugate from_bytes is_integer
    to_bytes real imag numerator denominator""".split())
BARRED_FILES = set("test tests testing site conftest sitecustomize usercustomize".split()) | PYTHON


class File:
    """One file: its tree, what is above each node, and the names that it binds."""

    def __init__(self, name, text):
        self.name = name
        self.text = text
        self.tree = ast.parse(text)
        self.above = {}
        for node in ast.walk(self.tree):
            for child in ast.iter_child_nodes(node):
                self.above[child] = node
        self.imports = {}
        for node in ast.walk(self.tree):
            if isinstance(node, ast.ImportFrom):
                for alias in node.names:
                    self.imports[alias.asname or alias.name] = (node.module, alias.name)
        self.functions = [node.name for node in self.tree.body if isinstance(node, ast.FunctionDef)]
        self.classes = [node.name for node in self.tree.body if isinstance(node, ast.ClassDef)]
        self.values = [node.targets[0].id for node in self.tree.body
                       if isinstance(node, ast.Assign) and isinstance(node.targets[0], ast.Name)]
        self.docstrings = {id(node.body[0].value) for node in ast.walk(self.tree)
                           if isinstance(node, (ast.Module, ast.ClassDef, ast.FunctionDef)) and node.body
                           and isinstance(node.body[0], ast.Expr) and isinstance(node.body[0].value, ast.Constant)}

    def inside(self, node, kinds):
        while node in self.above:
            node = self.above[node]
            if isinstance(node, kinds):
                return True
        return False


class Checker:
    """All files of the package together."""

    def __init__(self, sources):
        self.found = []
        self.files = [File(name, text) for name, text in sorted(sources.items())]
        self.methods, self.attributes, self.compares = set(), set(), False
        for file in self.files:
            for node in ast.walk(file.tree):
                if isinstance(node, ast.ClassDef):
                    names = [one.name for one in node.body if isinstance(one, ast.FunctionDef)]
                    self.methods |= set(names)
                    self.compares = self.compares or "__eq__" in names
                if isinstance(node, ast.Attribute) and isinstance(node.ctx, ast.Store):
                    self.attributes.add(node.attr)
        self.errors = {name for file in self.files if file.name == "errors.py" for name in file.classes}
        self.errors |= {name for name in BUILTINS if name.endswith("Error") or name == "Exception"}

    def tell(self, file, node, rule, what):
        self.found.append((rule, file.name, getattr(node, "lineno", node), what))

    def check(self):
        for file in self.files:
            self.check_text(file)
            self.check_words(file)
            self.check_module(file)
            self.check_names(file)
            for node in ast.walk(file.tree):
                for method in (self.check_statement, self.check_function, self.check_class, self.check_value,
                               self.check_call, self.check_attribute, self.check_loop, self.check_set):
                    method(file, node)
        self.check_cycles()
        return self.found

    def check_text(self, file):
        stem = file.name[:-3]
        if not re.fullmatch(r"[a-z][a-z0-9_]*\.py|__init__\.py", file.name):
            self.tell(file, 1, "L1", "name of a file")
        if stem in BARRED_FILES or stem.startswith(("law_", "test_")) or stem in BARRED | BARRED_NAMES | BARRED_WORDS:
            self.tell(file, 1, "L14", "name of a file")
        lines = file.text.split("\n")
        if len(lines) > 400:
            self.tell(file, len(lines), "L10", "lines of a file")
        for number, line in enumerate(lines, 1):
            if len(line) > 120:
                self.tell(file, number, "L10", "characters of a line")
            if not re.fullmatch(r"[ -~]*", line):
                self.tell(file, number, "L14", "character")
            if "_wall" in line or "_WallAttr" in line:
                self.tell(file, number, "L12", "word")
        if not file.text.endswith("\n"):
            self.tell(file, len(lines), "L1", "no newline at the end")

    def check_words(self, file):
        documents = {(node.lineno) for node in ast.walk(file.tree) if id(node) in file.docstrings}
        for token in tokenize.generate_tokens(io.StringIO(file.text).readline):
            if token.type == tokenize.COMMENT or (token.type == tokenize.STRING and token.start[0] in documents):
                continue
            if set(re.findall(r"\w+", token.string)) & BARRED_WORDS:
                self.tell(file, token.start[0], "L17", token.string)
            if re.search("dataclass|overload|contextmanager", token.string):
                self.tell(file, token.start[0], "L17", token.string)
            if token.type == tokenize.NAME and token.string in BARRED:
                self.tell(file, token.start[0], "L17", token.string)
            if token.type == tokenize.STRING and re.search(r"\\[^nt\\'\"]", token.string):
                self.tell(file, token.start[0], "L27", "escape")

    def check_module(self, file):
        later = False
        bound = []
        for place, node in enumerate(file.tree.body):
            if isinstance(node, ast.ImportFrom):
                if later:
                    self.tell(file, node, "L2", "import below other statements")
                self.check_import(file, node)
                bound += [alias.asname or alias.name for alias in node.names]
                continue
            if place == 0 and isinstance(node, ast.Expr) and isinstance(node.value, ast.Constant):
                continue
            later = True
            if isinstance(node, (ast.FunctionDef, ast.ClassDef)):
                bound.append(node.name)
            elif isinstance(node, ast.Assign) and len(node.targets) == 1 and isinstance(node.targets[0], ast.Name):
                bound.append(node.targets[0].id)
                try:
                    ast.literal_eval(node.value)
                except ValueError:
                    self.tell(file, node, "L3", "value at module level")
            else:
                self.tell(file, node, "L3", "statement at module level")
        for name in set(bound):
            if bound.count(name) > 1:
                self.tell(file, 1, "L15", f"{name} is bound twice")

    def check_import(self, file, node):
        module = node.module or ""
        for alias in node.names:
            if node.level or alias.name == "*":
                self.tell(file, node, "L2", "import")
            elif module in LIBRARY:
                if alias.asname or alias.name not in LIBRARY[module]:
                    self.tell(file, node, "L2", f"import of {alias.name}")
            elif not module.startswith(PACKAGE + "."):
                self.tell(file, node, "L2", f"import from {module}")
            else:
                source = [one for one in self.files if one.name == module[len(PACKAGE) + 1:] + ".py"]
                if not source or alias.name not in source[0].functions + source[0].classes + source[0].values:
                    self.tell(file, node, "L16", f"{alias.name} is not defined in {module}")
            used = [one for one in ast.walk(file.tree) if isinstance(one, ast.Name) and one.id == alias.name]
            if not used:
                self.tell(file, node, "L2", f"{alias.name} is not used")
            for one in used:
                call = file.above[one]
                if module in LIBRARY and not (isinstance(call, ast.Call) and call.func is one and not call.keywords):
                    self.tell(file, one, "L2", f"{alias.name} is not called")

    def check_cycles(self):
        near = {file.name: {f"{module[len(PACKAGE) + 1:]}.py" for module, _ in file.imports.values()
                            if module.startswith(PACKAGE)} for file in self.files}
        for name in near:
            seen, queue = set(), list(near[name])
            while queue:
                other = queue.pop()
                if other not in seen:
                    seen.add(other)
                    queue += near.get(other, ())
            if name in seen:
                self.found.append(("L16", name, 1, "imports itself"))

    def check_names(self, file):
        taken = set(file.imports) | set(file.classes)
        own = set(file.functions) | set(file.classes) | set(file.values) | set(file.imports)
        for node in ast.walk(file.tree):
            names = []
            if isinstance(node, ast.Name) and isinstance(node.ctx, (ast.Store, ast.Del)):
                names = [node.id]
                if node.id == "_" and not file.inside(node, ast.FunctionDef):
                    self.tell(file, node, "L12", "_")
            elif isinstance(node, ast.arg):
                names = [node.arg]
            elif isinstance(node, (ast.FunctionDef, ast.ClassDef)):
                names = [node.name]
            elif isinstance(node, ast.keyword) and node.arg:
                names = [node.arg] if node.arg not in ("key", "reverse", "default", "start", "strict") else []
            for name in names:
                method = isinstance(node, ast.FunctionDef) and isinstance(file.above[node], ast.ClassDef)
                if name.startswith("__") and not (method and name in DOUBLE):
                    self.tell(file, node, "L8", name)
                if name in PYTHON and not method:
                    self.tell(file, node, "L15", f"{name} is a builtin")
                if name in BARRED_NAMES | BARRED or not re.fullmatch(r"_?_?[A-Za-z][A-Za-z0-9_]*|_", name):
                    self.tell(file, node, "L17", name)
                if name in taken and not isinstance(node, (ast.ClassDef, ast.keyword)):
                    self.tell(file, node, "L15", f"{name} is a class or an import")
                if name in own and isinstance(node, (ast.Name, ast.arg)) and file.inside(node, ast.FunctionDef):
                    self.tell(file, node, "L15", f"{name} is also at module level")
            if isinstance(node, ast.Name) and isinstance(node.ctx, ast.Load):
                if node.id == "_":
                    self.tell(file, node, "L12", "_ is read")
                if node.id in PYTHON and node.id not in own and node.id not in BUILTINS:
                    self.tell(file, node, "L8", node.id)

    def check_statement(self, file, node):
        if isinstance(node, ast.stmt) and file.inside(node, ast.FunctionDef):
            if not isinstance(node, STATEMENTS):
                self.tell(file, node, "L6", type(node).__name__)
        if isinstance(node, ast.Expr) and not isinstance(node.value, ast.Call) and id(node.value) not in file.docstrings:
            self.tell(file, node, "L6", "expression alone")
        if isinstance(node, ast.ExceptHandler):
            names = node.type.elts if isinstance(node.type, ast.Tuple) else [node.type]
            for name in names:
                if not isinstance(name, ast.Name) or name.id not in self.errors:
                    self.tell(file, node, "L19", "handler")
                elif name.id in BUILTINS - {"KeyError", "ZeroDivisionError"}:
                    self.tell(file, node, "L19", f"{name.id} is caught")
        if isinstance(node, ast.Raise) and node.exc is not None:
            made = isinstance(node.exc, ast.Call) and isinstance(node.exc.func, ast.Name)
            if not made or node.exc.func.id not in self.errors:
                self.tell(file, node, "L19", "raise")
        if isinstance(node, (ast.Try, ast.With)) and getattr(node, "finalbody", None):
            self.tell(file, node, "L6", "finally is not looked at here")
        if isinstance(node, ast.AugAssign) and isinstance(node.target, ast.Subscript):
            if isinstance(node.target.slice, ast.Slice):
                self.tell(file, node, "L6", "slice")

    def check_function(self, file, node):
        if not isinstance(node, (ast.FunctionDef, ast.Lambda)):
            return
        spec = node.args
        for value in spec.defaults + [one for one in spec.kw_defaults if one is not None]:
            try:
                ast.literal_eval(value)
            except ValueError:
                self.tell(file, node, "L4", "default value")
        for arg in spec.args + spec.kwonlyargs:
            if arg.annotation is not None:
                self.tell(file, node, "L21", "annotation")
        if isinstance(node, ast.FunctionDef):
            if node.end_lineno - node.lineno + 1 > 40:
                self.tell(file, node, "L10", "lines of a function")
            if node.decorator_list or node.returns is not None:
                self.tell(file, node, "L4", "decorator or annotation")
            if not ast.get_docstring(node) and not node.name.startswith("__"):
                self.tell(file, node, "style", f"{node.name} has no docstring")
            calls = [one.func.id for one in ast.walk(node)
                     if isinstance(one, ast.Call) and isinstance(one.func, ast.Name)]
            if node.name in calls:
                self.tell(file, node, "L11", f"{node.name} calls itself")
            returns = [one for one in ast.walk(node) if isinstance(one, ast.Return)]
            if node.name == "__init__" and [one for one in returns if one.value is not None]:
                self.tell(file, node, "L28", "__init__ returns")

    def check_class(self, file, node):
        if not isinstance(node, ast.ClassDef):
            return
        if file.above[node] is not file.tree or node.decorator_list or node.keywords or len(node.bases) > 1:
            self.tell(file, node, "L5", node.name)
        for place, one in enumerate(node.body):
            document = place == 0 and isinstance(one, ast.Expr)
            if not document and not isinstance(one, (ast.FunctionDef, ast.Assign)):
                self.tell(file, one, "L5", "statement in a class")
            if isinstance(one, ast.FunctionDef) and one.name.startswith("__") and one.name not in DOUBLE:
                self.tell(file, one, "L5", one.name)
        names = [one.name for one in node.body if isinstance(one, ast.FunctionDef)]
        stored = {one.attr for one in ast.walk(node) if isinstance(one, ast.Attribute) and isinstance(one.ctx, ast.Store)}
        for name in set(names):
            if names.count(name) > 1 or name in stored:
                self.tell(file, node, "L18", name)
        for name in stored & BARRED_ATTRIBUTES:
            self.tell(file, node, "L26", name)

    def check_value(self, file, node):
        if isinstance(node, ast.Constant) and id(node) not in file.docstrings:
            if isinstance(node.value, (float, complex, bytes)) or node.value is Ellipsis:
                self.tell(file, node, "L7", repr(node.value))
            if isinstance(node.value, str):
                text = node.value
                if "%" in text or re.search(r"\._{1,2}$", text) or re.search(r"(^|[{.\W])__", text):
                    self.tell(file, node, "L27", repr(text))
        if isinstance(node, (ast.Div, ast.MatMult)):
            self.tell(file, 1, "L7", "sign /")
        if isinstance(node, (ast.Await, ast.Yield, ast.YieldFrom, ast.NamedExpr)):
            self.tell(file, node, "L7", "not looked at here")
        if isinstance(node, (ast.ListComp, ast.SetComp, ast.DictComp, ast.GeneratorExp)):
            if len(node.generators) > 6 or sum(len(one.ifs) for one in node.generators) > 12:
                self.tell(file, node, "L7", "comprehension")
            if not file.inside(node, ast.FunctionDef):
                self.tell(file, node, "L7", "comprehension at module level")
            self.check_nested(file, node)
        if isinstance(node, ast.GeneratorExp):
            call = file.above[node]
            name = call.func.id if isinstance(call, ast.Call) and isinstance(call.func, ast.Name) else ""
            barred = ("any", "all", "min", "max", "sum", "sorted") if self.compares else ()
            if name not in ("list", "tuple", "dict", "sorted", "sum", "min", "max", "any", "all") or name in barred:
                self.tell(file, node, "L7", "generator expression")
        if isinstance(node, ast.Compare):
            for sign, other in zip(node.ops, node.comparators):
                if isinstance(sign, (ast.Is, ast.IsNot)):
                    if not (isinstance(other, ast.Constant) and other.value in (None, True, False)):
                        self.tell(file, node, "L20", "is")
        if isinstance(node, ast.BinOp) and isinstance(node.op, ast.Pow):
            if not (isinstance(node.right, ast.Constant) and node.right.value in range(65)):
                self.tell(file, node, "L27", "exponent")
        if isinstance(node, ast.JoinedStr) and node.lineno != node.end_lineno:
            self.tell(file, node, "L27", "f-string over two lines")
        if isinstance(node, ast.FormattedValue):
            if [one for one in ast.walk(node.value) if isinstance(one, (ast.JoinedStr, ast.Constant))
                    and not isinstance(getattr(one, "value", 0), int)]:
                self.tell(file, node, "L27", "string in an f-string")

    def check_nested(self, file, node):
        """A comprehension inside another one has names of its own."""
        own = {one.id for part in node.generators for one in ast.walk(part.target) if isinstance(one, ast.Name)}
        comprehensions = (ast.ListComp, ast.SetComp, ast.DictComp, ast.GeneratorExp)
        outer = node
        while outer in file.above and not isinstance(outer, ast.FunctionDef):
            outer = file.above[outer]
        if file.inside(node, comprehensions):
            inner = {id(one) for part in ast.walk(outer) if isinstance(part, comprehensions)
                     for one in ast.walk(part)}
            names = {one.id for one in ast.walk(outer) if isinstance(one, ast.Name)
                     and isinstance(one.ctx, ast.Store) and id(one) not in inner}
            names |= {one.arg for one in ast.walk(outer) if isinstance(one, ast.arg)}
            if own & names:
                self.tell(file, node, "L7", f"names of a comprehension inside another one: {own & names}")

    def check_call(self, file, node):
        if not isinstance(node, ast.Call):
            return
        above = file.above[node]
        if isinstance(node.func, ast.Attribute):
            if node.func.attr not in METHODS | self.methods:
                self.tell(file, node, "L25", node.func.attr)
            if node.func.attr in METHODS - self.methods and node.keywords:
                self.tell(file, node, "L25", "keyword")
            if node.func.attr in ("items", "keys", "values") and not self.is_at_once(node, above):
                self.tell(file, node, "L23", node.func.attr)
        if not isinstance(node.func, ast.Name):
            return
        name = node.func.id
        if name in BUILTINS:
            words = {"sorted": ("key", "reverse"), "min": ("key", "default"), "max": ("key", "default"),
                     "sum": ("start",), "enumerate": ("start",), "zip": ("strict",)}.get(name, ())
            if not all(one.arg in words for one in node.keywords):
                self.tell(file, node, "L22", f"keyword of {name}")
            if name not in ("max", "min", "zip") and any(isinstance(one, ast.Starred) for one in node.args):
                self.tell(file, node, "L7", f"star in {name}")
            if name == "pow" or name == "chr":
                self.tell(file, node, "L27", name)
        if name in ("zip", "enumerate", "reversed") or name in LIBRARY["itertools"]:
            if not self.is_at_once(node, above):
                self.tell(file, node, "L23", name)
        if name == "range" and not self.is_at_once(node, above):
            inside = isinstance(above, ast.Call) and isinstance(above.func, ast.Name)
            if not (inside and (above.func.id in ("len", "reversed") or above.func.id in LIBRARY["itertools"])):
                if not isinstance(above, (ast.Compare, ast.Assign)):
                    self.tell(file, node, "L23", "range may be passed to own functions as a tuple only")

    def is_at_once(self, node, above):
        if isinstance(above, (ast.For, ast.comprehension)):
            return above.iter is node
        if isinstance(above, ast.Call) and isinstance(above.func, ast.Name):
            return above.func.id in AT_ONCE and above.args[0] is node or above.func.id == "zip"
        return False

    def check_attribute(self, file, node):
        if not isinstance(node, ast.Attribute):
            return
        call = file.above[node]
        called = isinstance(call, ast.Call) and call.func is node
        if isinstance(node.ctx, ast.Load) and not called and node.attr not in self.attributes:
            self.tell(file, node, "L18", f"{node.attr} is assigned by no class")
        if isinstance(node.ctx, ast.Store) and not (isinstance(node.value, ast.Name)):
            self.tell(file, node, "L18", "attribute of no local name")
        if node.attr.startswith("__") and node.attr != "__init__":
            self.tell(file, node, "L8", node.attr)

    def check_loop(self, file, node):
        if not isinstance(node, ast.For):
            return
        queue, over = [node.iter], []
        while queue:
            one = queue.pop()
            if isinstance(one, (ast.Name, ast.Attribute)):
                over.append(ast.dump(one).replace("Store()", "Load()"))
            elif isinstance(one, ast.Call) and isinstance(one.func, ast.Name):
                queue += one.args if one.func.id in ("enumerate", "zip", "reversed", "range") else []
            elif isinstance(one, ast.Call) and isinstance(one.func, ast.Attribute):
                queue.append(one.func.value)
            elif isinstance(one, ast.IfExp):
                queue += [one.body, one.orelse]
        for one in [inner for line in node.body + node.orelse for inner in ast.walk(line)]:
            target = None
            if isinstance(one, ast.Call) and isinstance(one.func, ast.Attribute) and one.func.attr in CHANGING:
                target = one.func.value
            if isinstance(one, ast.Subscript) and isinstance(one.ctx, (ast.Store, ast.Del)):
                target = one.value
            if target is not None and ast.dump(target).replace("Store()", "Load()") in over:
                self.tell(file, one, "L23", "what the loop goes over is changed")

    def check_set(self, file, node):
        made = isinstance(node, ast.Call) and isinstance(node.func, ast.Name) and node.func.id in ("set", "frozenset")
        if not made and not isinstance(node, (ast.Set, ast.SetComp)):
            return
        if isinstance(node, ast.Set) and any(isinstance(one, ast.Starred) for one in node.elts):
            self.tell(file, node, "L7", "star in a set")
        above = file.above[node]
        call = isinstance(above, ast.Call) and isinstance(above.func, ast.Name) and above.func.id in ("len", "sorted")
        if not isinstance(above, ast.Compare) and not call:
            self.tell(file, node, "L24", "set")


def faults(sources):
    """All faults, with the rule, the file, the line and some words for each."""
    found = Checker(sources).check()
    for name, text in sources.items():
        lines = {}
        for node in ast.walk(ast.parse(text)):
            if isinstance(node, ast.Lambda):
                lines[node.lineno] = lines.get(node.lineno, 0) + 1
        found += [("L13", name, line, "lambdas") for line, many in lines.items() if many > 1]
    return sorted(set(found), key=lambda fault: (fault[1], fault[2], fault[0]))
