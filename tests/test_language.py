"""The rules of the language that a look at the code can tell: what breaks one is named with its line."""

import ast
import builtins
import os
import unittest

PACKAGE = os.path.join(os.path.dirname(os.path.abspath(__file__)), "..", "whosefirst")
BUILTINS = set("""len range enumerate zip min max sum abs sorted reversed int str bool bytes list tuple dict set isinstance ord repr any all
    divmod super staticmethod property type ValueError iter""".split())
LIBRARY = {"math": {"gcd", "lcm"}, "heapq": {"heappush", "heappop"}}
METHODS = set("""append clear copy count endswith extend find get index insert isalnum isalpha isdigit islower isspace isupper items join
    keys ljust lower lstrip partition pop remove replace reverse rfind rjust rpartition rsplit rstrip setdefault split splitlines
    startswith strip update upper values zfill bit_length removeprefix removesuffix add discard""".split())
DOUBLE = set("""__init__ __eq__ __repr__ __str__ __len__ __iter__ __contains__ __add__ __sub__ __mul__ __neg__ __abs__ __bool__ __and__ __or__
    __invert__""".split())
BARRED = set("""register mro elements open input law version_info with_traceback add_note attrgetter breakpoint builtins compile copyright
    credits delattr dir eval exec exit gc globals help id importlib license locals methodcaller os quit vars sys""".split())
STATEMENTS = (ast.FunctionDef, ast.ClassDef, ast.Return, ast.Assign, ast.For, ast.While, ast.If, ast.Raise, ast.Expr, ast.Pass, ast.Break, ast.Try,
              ast.Continue, ast.Delete, ast.ImportFrom)
EXPRESSIONS_BARRED = (ast.GeneratorExp, ast.Await, ast.Yield, ast.YieldFrom, ast.NamedExpr, ast.Set, ast.AnnAssign, ast.Div, ast.MatMult)


def files():
    for name in sorted(os.listdir(PACKAGE)):
        if name != "__pycache__":
            with open(os.path.join(PACKAGE, name), encoding="utf-8", newline="") as file:
                yield name, file.read()


def trees():
    return {name[:-3]: ast.parse(text) for name, text in files()}


def bound_names(function):
    """Parameters and local names of a function, those of its comprehensions and lambdas too."""
    names = [(node.arg, node) for node in ast.walk(function) if isinstance(node, ast.arg)]
    names += [(node.id, node) for node in ast.walk(function) if isinstance(node, ast.Name) and not isinstance(node.ctx, ast.Load)]
    return names


def functions(tree):
    return [node for node in ast.walk(tree) if isinstance(node, ast.FunctionDef)]


class Language(unittest.TestCase):

    def setUp(self):
        self.found = []

    def tearDown(self):
        self.assertEqual(self.found, [])

    def wrong(self, file, node, what):
        self.found.append(f"{file}.py:{getattr(node, 'lineno', node)}: {what}")

    def test_files_lines_and_characters(self):
        for name, text in files():
            if not name.endswith(".py") or not name[:-3].replace("_", "a").isalnum() or name != name.lower():
                self.found.append(name)
            for at, line in enumerate(text.split("\n"), 1):
                if len(line) > 120 or any(not " " <= sign <= "~" for sign in line):
                    self.wrong(name[:-3], at, "characters")
            for word in ("_wall", "_WallAttr", "dataclass", "overload", "contextmanager"):
                if word in text:
                    self.found.append(f"{name}: {word}")
            if len(text.splitlines()) > 399 or not text.endswith("\n"):
                self.found.append(f"{name}: length")

    def test_sizes_of_functions(self):
        for file, tree in trees().items():
            for node in functions(tree):
                if node.end_lineno - node.lineno + 1 > 40:
                    self.wrong(file, node, "more than 40 lines")

    def test_imports(self):
        all_trees = trees()
        reached = {}
        for file, tree in all_trees.items():
            reached[file] = []
            for node in ast.walk(tree):
                if isinstance(node, ast.Import):
                    self.wrong(file, node, "import")
                if isinstance(node, ast.ImportFrom):
                    self.look_at_import(file, node, all_trees, reached[file])
        for file in reached:
            seen, ahead = set(), list(reached[file])
            while ahead:
                next_file = ahead.pop()
                if next_file not in seen:
                    seen.add(next_file)
                    ahead.extend(reached[next_file])
            if file in seen:
                self.found.append(f"{file}: imports itself")

    def look_at_import(self, file, node, all_trees, reached):
        names = [alias.name for alias in node.names]
        if any(alias.asname for alias in node.names) or node.level:
            self.wrong(file, node, "as, or a dot")
        if node.module in LIBRARY:
            if not set(names) <= LIBRARY[node.module]:
                self.wrong(file, node, "library")
            return
        top, _, other = node.module.partition(".")
        defined = [item.name for item in all_trees[other].body if isinstance(item, (ast.FunctionDef, ast.ClassDef))]
        defined += [item.targets[0].id for item in all_trees[other].body if isinstance(item, ast.Assign)]
        if top != "whosefirst" or not set(names) <= set(defined):
            self.wrong(file, node, "not from the file that defines it")
        reached.append(other)
        text = ast.unparse(all_trees[file])
        for name in names:
            if text.count(name) < 2:
                self.wrong(file, node, f"{name} is not used")

    def test_statements_and_expressions(self):
        for file, tree in trees().items():
            for node in tree.body:
                if not isinstance(node, (ast.FunctionDef, ast.ClassDef, ast.ImportFrom, ast.Assign)) and not (
                        isinstance(node, ast.Expr) and isinstance(node.value, ast.Constant)):
                    self.wrong(file, node, "at module level")
            for node in ast.walk(tree):
                if isinstance(node, ast.stmt) and not isinstance(node, STATEMENTS) or isinstance(node, EXPRESSIONS_BARRED):
                    self.wrong(file, node, type(node).__name__)
                if isinstance(node, ast.Constant) and isinstance(node.value, (float, complex, bytes)):
                    self.wrong(file, node, "number or bytes")
                if isinstance(node, ast.Constant) and isinstance(node.value, str) and "%" in node.value:
                    self.wrong(file, node, "% in a string")
                if isinstance(node, ast.BinOp) and isinstance(node.op, (ast.Pow, ast.Mod)) and not isinstance(node.right, ast.Constant):
                    self.wrong(file, node, "exponent or remainder")
                if isinstance(node, ast.Compare) and any(isinstance(sign, (ast.Is, ast.IsNot)) for sign in node.ops):
                    if "type(" not in ast.unparse(node) and not ast.unparse(node.comparators[0]) == "None":
                        self.wrong(file, node, "is")
                if isinstance(node, (ast.SetComp, ast.DictComp, ast.ListComp)) and any(step.is_async for step in node.generators):
                    self.wrong(file, node, "async")
                if isinstance(node, ast.Assign) and isinstance(node.value, ast.SetComp):
                    self.wrong(file, node, "set")
                if isinstance(node, (ast.FunctionDef, ast.arg)) and (getattr(node, "returns", None) or getattr(node, "annotation", None)):
                    self.wrong(file, node, "annotation")

    def test_names(self):
        for file, tree in trees().items():
            taken = {alias.name for node in ast.walk(tree) if isinstance(node, ast.ImportFrom) for alias in node.names}
            taken |= {node.name for node in tree.body if isinstance(node, ast.ClassDef)}
            top = [node.name for node in tree.body if isinstance(node, (ast.FunctionDef, ast.ClassDef))]
            top += [node.targets[0].id for node in tree.body if isinstance(node, ast.Assign)]
            if len(set(top)) < len(top) or set(top) & {alias for alias in taken if alias not in top}:
                self.found.append(f"{file}: a name twice")
            for name in top:
                if name in vars(builtins) or name in BARRED:
                    self.found.append(f"{file}: {name}")
            for function in functions(tree):
                for name, node in bound_names(function):
                    if name in taken or name in vars(builtins) or name in BARRED or name in top or name.startswith("__"):
                        self.wrong(file, node, f"the name {name}")

    def test_builtins_and_methods(self):
        all_trees = trees()
        own = {node.name for tree in all_trees.values() for node in functions(tree)}
        for file, tree in all_trees.items():
            for node in ast.walk(tree):
                if isinstance(node, ast.Name) and node.id in vars(builtins) and node.id not in BUILTINS:
                    self.wrong(file, node, f"builtin {node.id}")
                if isinstance(node, ast.Call) and isinstance(node.func, ast.Attribute) and node.func.attr not in METHODS | own | {"__init__"}:
                    self.wrong(file, node, f"method {node.func.attr}")
                if isinstance(node, ast.Call) and isinstance(node.func, ast.Name) and node.func.id in vars(builtins):
                    if {word.arg for word in node.keywords} - {"key", "reverse", "default", "start"}:
                        self.wrong(file, node, "keyword")
                if isinstance(node, ast.Name) and node.id == "set" and not self.stands_in_sorted_or_alone(tree, node):
                    self.wrong(file, node, "set")

    def stands_in_sorted_or_alone(self, tree, name):
        for node in ast.walk(tree):
            if isinstance(node, ast.Call) and node.func is name:
                call = node
        for node in ast.walk(tree):
            if isinstance(node, ast.Call) and call in node.args and ast.unparse(node.func) in ("sorted", "len"):
                return True
            if isinstance(node, ast.Assign) and node.value is call:
                return True
        return False

    def test_classes(self):
        all_trees = trees()
        classes = [(file, node) for file, tree in all_trees.items() for node in tree.body if isinstance(node, ast.ClassDef)]
        static, plain, stored = set(), set(), set()
        for file, node in classes:
            methods = [item for item in node.body if isinstance(item, ast.FunctionDef)]
            if len({item.name for item in methods}) < len(methods) or node.decorator_list or node.keywords:
                self.wrong(file, node, "class")
            for item in methods:
                if item.name.startswith("__") and item.name not in DOUBLE:
                    self.wrong(file, item, item.name)
                if [ast.unparse(sign) for sign in item.decorator_list] not in ([], ["staticmethod"]):
                    self.wrong(file, item, "decorator")
                (static if item.decorator_list else plain).add(item.name)
                stored |= {target.attr for target in ast.walk(item) if isinstance(target, ast.Attribute) and isinstance(target.ctx, ast.Store)}
                self.look_at_double(file, item)
        for name in (static & (plain | stored)) | (plain & stored):
            self.found.append(f"{name} is a method and something else")
        barred = "items keys values pop update append clear extend insert remove reverse setdefault sort args encode decode hex format".split()
        for name in stored & set(barred):
            self.found.append(f"attribute {name}")
        for file, tree in all_trees.items():
            for node in ast.walk(tree):
                if isinstance(node, ast.Attribute) and isinstance(node.ctx, ast.Load) and node.attr not in stored | static | plain | METHODS | {"__init__"}:
                    self.wrong(file, node, f"attribute {node.attr} is never assigned")
        nested = [inner for tree in all_trees.values() for node in functions(tree) for inner in functions(node)[1:]]
        self.assertEqual(nested, [])

    def look_at_double(self, file, method):
        returns = [node.value for node in ast.walk(method) if isinstance(node, ast.Return)]
        shown = [ast.unparse(value) if value else "" for value in returns]
        if method.name == "__init__" and returns:
            self.wrong(file, method, "returns")
        if method.name in ("__str__", "__repr__"):
            for value, text in zip(returns, shown):
                is_join = isinstance(value, ast.Call) and isinstance(value.func, ast.Attribute) and value.func.attr == "join" \
                    and isinstance(value.func.value, ast.Constant)
                if not (is_join or isinstance(value, (ast.JoinedStr, ast.Constant)) or text.startswith(("str(", "repr("))):
                    self.wrong(file, method, text)
        if method.name == "__len__" and not all(text.startswith("len(") for text in shown):
            self.wrong(file, method, "len")
        if method.name == "__iter__" and not (len(shown) == 1 and shown[0].startswith("iter(self.")):
            self.wrong(file, method, "iter")
        if method.name in ("__str__", "__repr__", "__len__", "__bool__") and not isinstance(method.body[-1], ast.Return):
            self.wrong(file, method, "ends in no return")
        if method.name in ("__add__", "__sub__", "__mul__", "__eq__") and [arg.arg for arg in method.args.args] != ["self", "other"]:
            self.wrong(file, method, "parameters")

    def test_what_is_iterated_at_once(self):
        at_once = "list tuple dict sorted sum any all enumerate zip".split()
        for file, tree in trees().items():
            allowed = set()
            for node in ast.walk(tree):
                if isinstance(node, (ast.For, ast.comprehension)):
                    allowed.add(node.iter)
                if isinstance(node, ast.Call) and node.args:
                    name = node.func.id if isinstance(node.func, ast.Name) else ""
                    is_join = isinstance(node.func, ast.Attribute) and node.func.attr == "join" and isinstance(node.func.value, ast.Constant)
                    if name in at_once or is_join or (name in ("min", "max", "len", "reversed") and len(node.args) == 1):
                        allowed.add(node.args[0])
            for node in ast.walk(tree):
                if isinstance(node, ast.Call) and node not in allowed:
                    shown = ast.unparse(node.func)
                    if shown in ("zip", "enumerate", "reversed", "range") or shown.endswith((".items", ".keys", ".values")):
                        self.wrong(file, node, f"{shown} is not iterated at once")

    def test_stars(self):
        for file, tree in trees().items():
            for node in ast.walk(tree):
                if isinstance(node, ast.Call):
                    for argument in node.args:
                        if isinstance(argument, ast.Starred) and not isinstance(argument.value, (ast.Name, ast.Attribute)):
                            self.wrong(file, node, "a star ahead of no name")
                    if any(isinstance(argument, ast.Starred) for argument in node.args) and isinstance(node.func, ast.Name) and node.func.id in BUILTINS:
                        self.wrong(file, node, "a star in a builtin's call")

    def test_lambdas(self):
        for file, tree in trees().items():
            lines = [node.lineno for node in ast.walk(tree) if isinstance(node, ast.Lambda)]
            if len(set(lines)) < len(lines):
                self.found.append(f"{file}: two lambdas on a line")

    def test_names_in_comprehensions(self):
        """The variable of a comprehension in another one has a name that nothing further out assigns."""
        for file, tree in trees().items():
            for function in functions(tree):
                outside = {name for name, node in bound_names(function) if not self.is_in_comprehension(function, node)}
                for outer in self.comprehensions_in(function):
                    for inner in [node for node in self.comprehensions_in(outer) if node is not outer]:
                        for name in self.variables_of(inner):
                            if name in outside | self.variables_of(outer):
                                self.wrong(file, inner, f"{name} is assigned further out")

    def comprehensions_in(self, tree):
        return [node for node in ast.walk(tree) if isinstance(node, (ast.ListComp, ast.SetComp, ast.DictComp))]

    def variables_of(self, comprehension):
        return {node.id for step in comprehension.generators for node in ast.walk(step.target) if isinstance(node, ast.Name)} - {"_"}

    def is_in_comprehension(self, function, name):
        return any(name in list(ast.walk(node)) for node in self.comprehensions_in(function))
