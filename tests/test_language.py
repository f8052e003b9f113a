"""The rules of the language over the files of the package, as far as a test can see them."""

import ast
import builtins
import io
import os
import tokenize
import unittest

HERE = os.path.dirname(os.path.abspath(__file__))
FOLDER = os.path.join(os.path.dirname(HERE), "shrunkalike")
PACKAGE = "shrunkalike"

BUILTINS = set("""len range enumerate zip min max sum abs sorted reversed int str bool bytes list tuple dict set
    frozenset isinstance ord repr any all divmod pow iter Exception ValueError TypeError KeyError IndexError
    LookupError ZeroDivisionError ArithmeticError OverflowError RuntimeError NotImplementedError AttributeError
    StopIteration NotImplemented""".split())
METHODS = set("""append clear copy count endswith extend find get index insert isalnum isalpha isdigit islower
    isspace isupper items join keys ljust lower lstrip partition pop remove replace reverse rfind rjust rpartition
    rsplit rstrip setdefault split splitlines startswith strip update upper values zfill bit_length""".split())
DUNDERS = set("""__init__ __eq__ __repr__ __str__ __len__ __enter__ __exit__ __call__ __iter__ __bool__ __contains__
    __getitem__ __setitem__ __or__ __and__ __sub__ __mul__ __add__""".split())
NOWHERE = set("""register mro elements open input law version_info with_traceback add_note""".split())
NO_NAMES = set("""attrgetter breakpoint builtins compile copyright credits delattr dir eval exec exit gc globals help
    id importlib license locals methodcaller os quit super type vars sys""".split())
NO_WORDS = set("""type typing typing_extensions enum Enum IntEnum StrEnum Flag IntFlag Generic Protocol ABC ABCMeta
    namedtuple NamedTuple TypedDict TYPE_CHECKING abstractmethod""".split())
NO_ATTRIBUTES = set("""items keys values pop update append clear extend insert remove reverse setdefault sort args
    encode decode hex fromhex format format_map mro""".split())
NO_BEGINNINGS = ("_wall", "_pe_", "_dcw_", "_enum_", "_cm_", "_twin_re_", "_lay_", "_law_", "_stub_", "_sre", "_Wall",
                 "_cold", "_tuplegetter", "_outside", "_record", "_written_out", "_member_names")
NO_FILES = set("test tests testing site conftest sitecustomize usercustomize heapq math itertools".split())
AT_ONCE = ("list", "tuple", "dict", "sorted", "sum", "any", "all", "enumerate", "zip", "min", "max")
LAZY = ("zip", "enumerate", "reversed", "range")
VIEWS = ("items", "keys", "values")
CHANGING = ("append", "extend", "insert", "pop", "remove", "clear", "reverse", "update", "setdefault", "add", "discard")
STATEMENTS = (ast.Assign, ast.AugAssign, ast.If, ast.While, ast.For, ast.Return, ast.Break, ast.Continue, ast.Pass,
              ast.Raise, ast.Expr, ast.FunctionDef, ast.ClassDef, ast.ImportFrom, ast.Delete, ast.Try)
FUNCTIONS = (ast.FunctionDef, ast.AsyncFunctionDef, ast.Lambda)


def read_all():
    found = {}
    for name in sorted(os.listdir(FOLDER)):
        if name != "__pycache__":
            with open(os.path.join(FOLDER, name), "rb") as told:
                found[name] = told.read()
    return found


FILES = read_all()
TREES = {name: ast.parse(data) for name, data in FILES.items() if name.endswith(".py")}


def functions_of(tree):
    return [node for node in ast.walk(tree) if isinstance(node, ast.FunctionDef)]


def classes_of(tree):
    return [node for node in tree.body if isinstance(node, ast.ClassDef)]


def parents_of(tree):
    return {child: node for node in ast.walk(tree) for child in ast.iter_child_nodes(node)}


def stored_names(node):
    return [part.id for part in ast.walk(node) if isinstance(part, ast.Name) and not isinstance(part.ctx, ast.Load)]


def parameters(function):
    return [part.arg for part in function.args.posonlyargs + function.args.args + function.args.kwonlyargs]


def imports_of(tree):
    return [(node, part) for node in tree.body if isinstance(node, ast.ImportFrom) for part in node.names]


def defined_in(tree):
    found = [node.name for node in tree.body if isinstance(node, (ast.FunctionDef, ast.ClassDef))]
    return found + [name for node in tree.body if isinstance(node, ast.Assign) for name in stored_names(node)]


def called(node):
    return node.func.id if isinstance(node, ast.Call) and isinstance(node.func, ast.Name) else None


def is_view(node):
    return (isinstance(node, ast.Call) and isinstance(node.func, ast.Attribute) and node.func.attr in VIEWS
            and not node.args)


def docstrings_of(tree):
    found = set()
    for node in ast.walk(tree):
        if isinstance(node, (ast.Module, ast.ClassDef, ast.FunctionDef)) and ast.get_docstring(node) is not None:
            found.add(node.body[0].value)
    return found


def base_inits(tree):
    """The calls `Base.__init__(self, ..)` in the `__init__` of a class, each with the class's base."""
    found = {}
    for kind in classes_of(tree):
        bases = [base.id for base in kind.bases]
        for part in kind.body:
            if isinstance(part, ast.FunctionDef) and part.name == "__init__":
                for node in ast.walk(part):
                    if (isinstance(node, ast.Call) and isinstance(node.func, ast.Attribute)
                            and node.func.attr == "__init__" and isinstance(node.func.value, ast.Name)
                            and node.func.value.id in bases and ast.unparse(node.args[0]) == "self"):
                        found[node] = node.func.value.id
    return found


def own_names():
    """All functions and methods of the package: name to node (of the last one) and the classes' methods."""
    functions, methods = {}, {}
    for tree in TREES.values():
        for node in tree.body:
            if isinstance(node, ast.FunctionDef):
                functions[node.name] = node
        for kind in classes_of(tree):
            for node in kind.body:
                if isinstance(node, ast.FunctionDef):
                    methods.setdefault(node.name, []).append(node)
    return functions, methods


class FilesTest(unittest.TestCase):
    def test_only_plain_files(self):
        self.assertIn("__init__.py", FILES)
        self.assertLessEqual(len(FILES), 100)
        for name in FILES:
            self.assertRegex(name, r"^[a-z0-9_]+\.py$")
            stem = name[:-3]
            self.assertNotIn(stem, NO_FILES)
            self.assertNotIn(stem, NOWHERE)
            self.assertFalse(stem.startswith(("law_", "test_")), name)
            self.assertNotIn(stem, dir(builtins))

    def test_sizes_and_characters(self):
        for name, data in FILES.items():
            lines = data.decode("utf-8").split("\n")
            self.assertTrue(data == b"" or data.endswith(b"\n"), name)
            self.assertLessEqual(len(lines) - 1, 399, name)
            for at, line in enumerate(lines):
                self.assertLessEqual(len(line), 120, (name, at + 1))
                self.assertTrue(all(" " <= sign <= "~" for sign in line), (name, at + 1))

    def test_functions_are_small(self):
        for name, tree in TREES.items():
            for node in functions_of(tree):
                self.assertLessEqual(node.end_lineno - node.lineno + 1, 40, (name, node.name))

    def test_words_that_do_not_occur(self):
        for name, data in FILES.items():
            text = data.decode("ascii")
            for word in ("_wall", "_WallAttr", "(type)", "Meta", "metaclass=", "__slots__"):
                self.assertNotIn(word, text, name)
            for token in tokenize.generate_tokens(io.StringIO(text).readline):
                if token.type == tokenize.NAME:
                    self.assertNotIn(token.string, NO_WORDS, (name, token.start))
                    for word in ("dataclass", "overload", "contextmanager"):
                        self.assertNotIn(word, token.string, (name, token.start))

    def test_strings(self):
        for name, tree in TREES.items():
            told = docstrings_of(tree)
            for node in ast.walk(tree):
                self.assertNotIsInstance(node, ast.JoinedStr, name)
                if isinstance(node, ast.Constant) and isinstance(node.value, str):
                    self.assertNotIn("%", node.value, (name, node.lineno))
                    self.assertNotIn("\\", node.value, (name, node.lineno))
                    if node not in told:
                        self.assertFalse(node.value.endswith(("._", ".__")), (name, node.lineno))
                        self.assertFalse(set(node.value.split()) & NO_WORDS, (name, node.lineno))
                if isinstance(node, ast.Constant):
                    self.assertNotIsInstance(node.value, (float, complex, bytes), (name, node.lineno))


class ImportsTest(unittest.TestCase):
    def test_form(self):
        for name, tree in TREES.items():
            for node in ast.walk(tree):
                self.assertNotIsInstance(node, ast.Import, name)
                if isinstance(node, ast.ImportFrom):
                    self.assertIn(node, tree.body, name)
            for node, part in imports_of(tree):
                self.assertIsNone(part.asname, name)
                self.assertEqual(node.level, 0, name)
                if node.module == "heapq":
                    self.assertIn(part.name, ("heappush", "heappop"), name)
                    continue
                folder, stem = node.module.split(".")
                self.assertEqual(folder, PACKAGE, name)
                self.assertIn(part.name, defined_in(TREES[stem + ".py"]), (name, part.name))

    def test_top_of_the_file(self):
        for name, tree in TREES.items():
            kinds = [isinstance(node, ast.ImportFrom) for node in tree.body[1:]]
            self.assertEqual(kinds, sorted(kinds, reverse=True), name)

    def test_no_import_goes_round(self):
        below = {name: {node.module.split(".")[-1] + ".py" for node, _ in imports_of(tree) if node.module != "heapq"}
                 for name, tree in TREES.items()}
        while below:
            free = [name for name in below if not below[name] & set(below)]
            self.assertTrue(free, "these import from each other: " + ", ".join(below))
            below = {name: found for name, found in below.items() if name not in free}

    def test_each_import_is_used(self):
        for name, tree in TREES.items():
            used = {node.id for node in ast.walk(tree) if isinstance(node, ast.Name)}
            for _, part in imports_of(tree):
                self.assertIn(part.name, used, name)

    def test_heaps_are_called_by_position(self):
        for name, tree in TREES.items():
            parents = parents_of(tree)
            for node in ast.walk(tree):
                if isinstance(node, ast.Name) and node.id in ("heappush", "heappop"):
                    call = parents[node]
                    self.assertTrue(isinstance(call, ast.Call) and call.func is node and not call.keywords, name)


class ModulesTest(unittest.TestCase):
    def test_module_level(self):
        for name, tree in TREES.items():
            self.assertIsNotNone(ast.get_docstring(tree), name)
            for node in tree.body[1:]:
                self.assertIsInstance(node, (ast.ImportFrom, ast.FunctionDef, ast.ClassDef, ast.Assign), name)
                if isinstance(node, ast.Assign):
                    self.assertEqual(len(node.targets), 1, name)
                    self.assertIsInstance(node.targets[0], ast.Name, name)
                    self.assertIsInstance(ast.literal_eval(node.value), (int, str, tuple), name)

    def test_one_binding_for_each_name(self):
        for name, tree in TREES.items():
            bound = defined_in(tree) + [part.name for _, part in imports_of(tree)]
            self.assertEqual(len(bound), len(set(bound)), name)

    def test_local_names(self):
        for name, tree in TREES.items():
            barred = {node.name for node in classes_of(tree)} | {part.name for _, part in imports_of(tree)}
            for node in ast.walk(tree):
                if isinstance(node, ast.arg):
                    self.assertNotIn(node.arg, barred, (name, node.lineno))
                if isinstance(node, ast.Name) and not isinstance(node.ctx, ast.Load):
                    self.assertNotIn(node.id, barred, (name, node.lineno))

    def test_local_names_hide_no_function_that_is_called(self):
        for name, tree in TREES.items():
            for function in functions_of(tree):
                local = set(parameters(function)) | set(stored_names(function))
                for node in ast.walk(function):
                    self.assertNotIn(called(node), local, (name, function.name))

    def test_plain_names(self):
        for name, tree in TREES.items():
            for node in ast.walk(tree):
                found = []
                if isinstance(node, ast.Name):
                    found = [node.id]
                elif isinstance(node, ast.arg):
                    found = [node.arg]
                elif isinstance(node, (ast.FunctionDef, ast.ClassDef)):
                    found = [node.name]
                elif isinstance(node, ast.Attribute):
                    found = [node.attr]
                elif isinstance(node, ast.keyword):
                    found = [node.arg]
                for word in found:
                    self.assertNotIn(word, NOWHERE, (name, node.lineno))
                    self.assertFalse(word.startswith(NO_BEGINNINGS), (name, word))
                    if not isinstance(node, ast.Attribute):
                        self.assertNotIn(word, NO_NAMES, (name, node.lineno))
                    if word.startswith("__"):
                        self.assertIn(word, DUNDERS, (name, node.lineno))

    def test_no_builtin_is_bound(self):
        for name, tree in TREES.items():
            for node in ast.walk(tree):
                word = None
                if isinstance(node, ast.Name) and not isinstance(node.ctx, ast.Load):
                    word = node.id
                elif isinstance(node, ast.arg):
                    word = node.arg
                elif isinstance(node, (ast.FunctionDef, ast.ClassDef)):
                    word = node.name
                self.assertNotIn(word, dir(builtins), name)

    def test_builtins_that_are_used(self):
        for name, tree in TREES.items():
            known = set(defined_in(tree)) | {part.name for _, part in imports_of(tree)}
            for function in functions_of(tree):
                known |= set(parameters(function)) | set(stored_names(function))
            known |= {node.name for node in ast.walk(tree) if isinstance(node, ast.ExceptHandler)}
            for node in ast.walk(tree):
                if isinstance(node, ast.Name) and node.id not in known and node.id != "property":
                    self.assertIn(node.id, BUILTINS, (name, node.lineno))


class StatementsTest(unittest.TestCase):
    def test_statements(self):
        for name, tree in TREES.items():
            for node in ast.walk(tree):
                if isinstance(node, ast.stmt):
                    self.assertIsInstance(node, STATEMENTS, (name, node.lineno))
                if isinstance(node, ast.Expr):
                    self.assertIsInstance(node.value, (ast.Call, ast.Constant), (name, node.lineno))
                if isinstance(node, FUNCTIONS):
                    self.assertIsInstance(node, ast.FunctionDef, (name, node.lineno))
                self.assertNotIsInstance(node, (ast.GeneratorExp, ast.Yield, ast.YieldFrom, ast.Await, ast.NamedExpr,
                                                ast.Set, ast.SetComp, ast.Global, ast.Nonlocal, ast.Div, ast.MatMult,
                                                ast.Pow, ast.AnnAssign, ast.Starred))

    def test_functions_stand_at_module_level_or_in_classes(self):
        for name, tree in TREES.items():
            for function in functions_of(tree):
                self.assertEqual([part.name for part in functions_of(function)], [function.name], name)
                self.assertIsNone(function.args.vararg, name)
                self.assertIsNone(function.args.kwarg, name)
                self.assertIsNone(function.returns, name)
                for default in function.args.defaults:
                    self.assertIsInstance(default, ast.Constant, name)

    def test_only_properties_are_decorated(self):
        for name, tree in TREES.items():
            for node in ast.walk(tree):
                for part in getattr(node, "decorator_list", []):
                    self.assertTrue(isinstance(part, ast.Name) and part.id == "property", name)
                    self.assertEqual(parameters(node), ["self"], name)

    def test_is_only_with_plain_values(self):
        for name, tree in TREES.items():
            for node in ast.walk(tree):
                if isinstance(node, ast.Compare):
                    for sign, right in zip(node.ops, node.comparators):
                        if isinstance(sign, (ast.Is, ast.IsNot)):
                            self.assertTrue(isinstance(right, ast.Constant) and right.value in (None, True, False), name)

    def test_an_underscore_is_never_read(self):
        for name, tree in TREES.items():
            for node in ast.walk(tree):
                if isinstance(node, ast.Name) and node.id == "_":
                    self.assertIsInstance(node.ctx, ast.Store, (name, node.lineno))

    def test_errors_are_raised_on_the_spot(self):
        classes = {kind.name for kind in classes_of(TREES["errors.py"])}
        for name, tree in TREES.items():
            for node in ast.walk(tree):
                if isinstance(node, ast.Raise):
                    self.assertIn(called(node.exc), classes, (name, node.lineno))
                    self.assertEqual(node.exc.keywords, [], name)

    def test_only_own_errors_are_caught(self):
        classes = {kind.name for kind in classes_of(TREES["errors.py"])}
        for name, tree in TREES.items():
            caught = []
            for node in ast.walk(tree):
                if isinstance(node, ast.Try):
                    self.assertEqual((node.finalbody, node.orelse), ([], []), (name, node.lineno))
                if isinstance(node, ast.ExceptHandler):
                    told = node.type.elts if isinstance(node.type, ast.Tuple) else [node.type]
                    for part in told:
                        self.assertIn(part.id, classes, (name, node.lineno))
                    for part in ast.walk(node):
                        if isinstance(part, ast.Raise) and part.cause is not None:
                            self.assertEqual(part.cause.id, node.name, (name, node.lineno))
                            caught.append(part)
            for node in ast.walk(tree):
                if isinstance(node, ast.Raise) and node not in caught:
                    self.assertIsNone(node.cause, (name, node.lineno))


class CallsTest(unittest.TestCase):
    def test_methods(self):
        _, methods = own_names()
        for name, tree in TREES.items():
            inits = base_inits(tree)
            for node in ast.walk(tree):
                if isinstance(node, ast.Call) and isinstance(node.func, ast.Attribute) and node not in inits:
                    word = node.func.attr
                    self.assertTrue(word in METHODS or word in methods, (name, node.lineno, word))
                    self.assertFalse(word.startswith("__"), (name, node.lineno))
                    if word in METHODS:
                        self.assertEqual(node.keywords, [], (name, node.lineno))

    def test_methods_are_not_passed_on(self):
        _, methods = own_names()
        properties = {node.name for found in methods.values() for node in found if node.decorator_list}
        for name, tree in TREES.items():
            parents = parents_of(tree)
            for node in ast.walk(tree):
                if isinstance(node, ast.Attribute) and node.attr in set(methods) - properties:
                    call = parents[node]
                    self.assertTrue(isinstance(call, ast.Call) and call.func is node, (name, node.lineno, node.attr))

    def test_functions_are_not_values(self):
        functions, _ = own_names()
        for name, tree in TREES.items():
            parents = parents_of(tree)
            local = {}
            for function in functions_of(tree):
                for node in ast.walk(function):
                    local.setdefault(node, set()).update(parameters(function) + stored_names(function))
            for node in ast.walk(tree):
                if isinstance(node, ast.Name) and node.id in set(functions) | BUILTINS - {"str", "int", "bool", "list",
                                                                                         "tuple", "ValueError"}:
                    if node.id not in local.get(node, ()):
                        call = parents[node]
                        self.assertTrue(isinstance(call, ast.Call) and call.func is node, (name, node.lineno, node.id))

    def test_numbers_of_arguments(self):
        functions, methods = own_names()
        inits = {kind.name: part for tree in TREES.values() for kind in classes_of(tree) for part in kind.body
                 if isinstance(part, ast.FunctionDef) and part.name == "__init__"}
        for name, tree in TREES.items():
            above = base_inits(tree)
            for node in ast.walk(tree):
                if called(node) in functions:
                    self.assertTrue(self.fits(node, functions[called(node)], 0), (name, node.lineno))
                elif called(node) in inits:
                    self.assertTrue(self.fits(node, inits[called(node)], 1), (name, node.lineno))
                elif node in above:
                    self.assertTrue(self.fits(node, inits[above[node]], 0), (name, node.lineno))
                elif isinstance(node, ast.Call) and isinstance(node.func, ast.Attribute):
                    found = methods.get(node.func.attr, [])
                    if node.func.attr not in METHODS:
                        self.assertTrue(all(self.fits(node, part, 1) for part in found), (name, node.lineno))

    def fits(self, call, function, skipped):
        most = len(parameters(function)) - skipped
        passed = len(call.args) + len(call.keywords)
        return most - len(function.args.defaults) <= passed <= most

    def test_iterated_at_once(self):
        for name, tree in TREES.items():
            parents = parents_of(tree)
            for node in ast.walk(tree):
                if called(node) in LAZY or is_view(node):
                    above = parents[node]
                    if isinstance(above, (ast.For, ast.comprehension)):
                        self.assertIs(above.iter, node, (name, node.lineno))
                    else:
                        self.assertIn(called(above), AT_ONCE, (name, node.lineno))
                        self.assertTrue(node in above.args, (name, node.lineno))

    def test_no_sets(self):
        for name, tree in TREES.items():
            for node in ast.walk(tree):
                self.assertNotIn(called(node), ("set", "frozenset", "bytes", "pow", "map"), name)

    def test_reversed_takes_what_is_plainly_a_list(self):
        for name, tree in TREES.items():
            for node in ast.walk(tree):
                if called(node) == "reversed":
                    self.assertIn(called(node.args[0]), ("list", "tuple", "sorted", "range"), (name, node.lineno))

    def test_what_is_iterated_is_not_changed(self):
        for name, tree in TREES.items():
            for node in ast.walk(tree):
                if isinstance(node, ast.For):
                    gone_over = {ast.unparse(part) for part in self.bases(node.iter)}
                    for part in node.body:
                        for changed in self.changed(part):
                            self.assertNotIn(ast.unparse(changed), gone_over, (name, part.lineno))

    def bases(self, node):
        if isinstance(node, (ast.Name, ast.Attribute)):
            return [node]
        if called(node) in ("zip", "enumerate", "reversed"):
            return [part for base in node.args for part in self.bases(base)]
        return self.bases(node.func.value) if is_view(node) else []

    def changed(self, tree):
        found = []
        for node in ast.walk(tree):
            if isinstance(node, ast.Call) and isinstance(node.func, ast.Attribute) and node.func.attr in CHANGING:
                found.append(node.func.value)
            if called(node) in ("heappush", "heappop"):
                found.append(node.args[0])
            if isinstance(node, ast.Subscript) and not isinstance(node.ctx, ast.Load):
                found.append(node.value)
        return found


class ClassesTest(unittest.TestCase):
    def test_attributes(self):
        _, methods = own_names()
        assigned = set()
        for tree in TREES.values():
            for node in ast.walk(tree):
                if isinstance(node, ast.Attribute) and isinstance(node.ctx, ast.Store):
                    assigned.add(node.attr)
        self.assertFalse(assigned & NO_ATTRIBUTES)
        self.assertFalse(set(methods) & {"keys", "property", "args"})
        for name, tree in TREES.items():
            for node in ast.walk(tree):
                if isinstance(node, ast.Attribute) and isinstance(node.ctx, ast.Load):
                    known = node.attr in assigned or node.attr in methods or node.attr in METHODS
                    self.assertTrue(known, (name, node.lineno, node.attr))

    def test_no_name_is_a_method_and_an_attribute(self):
        _, methods = own_names()
        for name, tree in TREES.items():
            for node in ast.walk(tree):
                if isinstance(node, ast.Attribute) and isinstance(node.ctx, ast.Store):
                    self.assertNotIn(node.attr, methods, (name, node.lineno))
                    self.assertIsInstance(node.value, ast.Name, (name, node.lineno))

    def test_special_methods(self):
        for name, tree in TREES.items():
            for kind in classes_of(tree):
                bodies = {node.name: node.body[-1] for node in kind.body if isinstance(node, ast.FunctionDef)}
                self.assertEqual(len(bodies), len(functions_of(kind)), kind.name)
                if "__bool__" in bodies:
                    self.assertEqual(ast.unparse(bodies["__bool__"]), "return bool(self.holds)")
                if "__len__" in bodies:
                    self.assertEqual(ast.unparse(bodies["__len__"]), "return len(self.rules)")
                if "__getitem__" in bodies:
                    self.assertEqual(ast.unparse(bodies["__iter__"]), "return iter(self.rules)")
                if "__eq__" in bodies:
                    self.assertTrue(ast.unparse(bodies["__eq__"]).startswith("return isinstance(other, " + kind.name))
                for node in kind.body:
                    if isinstance(node, ast.FunctionDef) and node.name == "__init__":
                        self.assertFalse([part for part in ast.walk(node) if isinstance(part, ast.Return)])

    def test_truth_of_what_has_a_length_is_not_asked(self):
        for name, tree in TREES.items():
            for node in ast.walk(tree):
                if isinstance(node, (ast.If, ast.While, ast.IfExp)) and isinstance(node.test, ast.Name):
                    self.assertNotIn(node.test.id, ("book", "one", "other", "lot"), (name, node.lineno))


class OperatorsTest(unittest.TestCase):
    """What operators and properties run changes nothing that it did not create."""

    def reached(self):
        functions, methods = own_names()
        inits = {kind.name: node for tree in TREES.values() for kind in classes_of(tree) for node in kind.body
                 if isinstance(node, ast.FunctionDef) and node.name == "__init__"}
        waiting = [node for word, found in methods.items() for node in found
                   if node.decorator_list or word in DUNDERS - {"__init__", "__call__", "__iter__"}]
        found = []
        while waiting:
            function = waiting.pop()
            if function in found:
                continue
            found.append(function)
            for node in ast.walk(function):
                word = called(node)
                if word in functions:
                    waiting.append(functions[word])
                elif word in inits and word not in [kind.name for kind in classes_of(TREES["errors.py"])]:
                    waiting.append(inits[word])
                elif isinstance(node, ast.Call) and isinstance(node.func, ast.Attribute):
                    if node.func.attr not in METHODS:
                        waiting.extend(methods[node.func.attr])
        return found

    def is_new(self, node):
        if isinstance(node, (ast.List, ast.ListComp, ast.Dict, ast.DictComp)):
            return True
        if isinstance(node, ast.Subscript):
            return isinstance(node.slice, ast.Slice)
        if isinstance(node, ast.BinOp):
            return self.is_new(node.left) or self.is_new(node.right)
        return called(node) in ("list", "dict", "sorted")

    def created(self, function):
        assigned = {}
        for node in ast.walk(function):
            if isinstance(node, ast.Assign):
                for target in node.targets:
                    if isinstance(target, ast.Name):
                        assigned.setdefault(target.id, []).append(self.is_new(node.value))
                    elif isinstance(target, ast.Tuple):
                        for part in stored_names(target):
                            assigned.setdefault(part, []).append(False)
            if isinstance(node, (ast.For, ast.comprehension)):
                for part in stored_names(node.target):
                    assigned.setdefault(part, []).append(False)
        return {word for word, kinds in assigned.items() if all(kinds)} - set(parameters(function))

    def test_nothing_is_changed(self):
        names = [function.name for function in self.reached()]
        for word in ("quarrel", "__or__", "__mul__", "__contains__", "closed_rows", "spread", "blocks_of", "pairs_of",
                     "image_of", "left_of_all", "live", "verdicts"):
            self.assertIn(word, names)
        for function in self.reached():
            own = self.created(function)
            objects = [node.targets[0].id for node in ast.walk(function) if isinstance(node, ast.Assign)
                       and isinstance(node.targets[0], ast.Name) and called(node.value) in ("Lot", "Sending")]
            for node in ast.walk(function):
                place = (function.name, getattr(node, "lineno", 0))
                if isinstance(node, ast.Call) and isinstance(node.func, ast.Attribute):
                    if node.func.attr in CHANGING:
                        base = node.func.value
                        if isinstance(base, ast.Call):
                            self.assertEqual(base.func.attr, "setdefault", place)
                            base = base.func.value
                        while isinstance(base, ast.Subscript):
                            base = base.value
                        self.assertIn(base.id, own, place)
                if isinstance(node, ast.Subscript) and not isinstance(node.ctx, ast.Load):
                    self.assertIn(node.value.id, own, place)
                if isinstance(node, ast.AugAssign):
                    self.assertIsInstance(node.target, ast.Name, place)
                    self.assertIsInstance(node.value.value, int, place)
                if isinstance(node, ast.Attribute) and isinstance(node.ctx, ast.Store):
                    self.assertTrue(function.name == "__init__" or node.value.id in objects, place)
                self.assertNotIn(called(node), ("heappush", "heappop"), place)
                if called(node) is not None:
                    self.assertNotIn(called(node), parameters(function), place)

    def test_a_lambda_or_key_stands_nowhere(self):
        for name, tree in TREES.items():
            for node in ast.walk(tree):
                self.assertNotIsInstance(node, ast.Lambda, name)
                if called(node) in ("sorted", "min", "max", "sum"):
                    self.assertEqual(node.keywords, [], (name, node.lineno))


class InterfaceTest(unittest.TestCase):
    PLACES = {
        "automata": ["checked_automaton", "accepts", "least_automaton", "within", "Within"],
        "books": ["Book"],
        "shrinking": ["steps", "step", "played", "shrinks", "ends", "overlaps"],
        "settling": ["settled", "Settled", "least_book", "same_ends", "SameEnds", "says", "Says"],
        "closing": ["closed_edges", "descends", "closing", "judge_closing"],
        "origins": ["origin", "all_end", "AllEnd"],
        "prices": ["price_table", "cheapest", "Cheapest"],
        "lots": ["Lot", "whole", "single", "meaning", "alike", "lies_within", "LiesWithin"],
        "measures": ["measured", "Measured"],
        "plainly": ["plainly", "Plainly"],
        "quotients": ["some_behind", "every_behind", "some_ahead", "every_ahead", "between"],
        "conditions": ["solutions"],
        "sayings": ["Saying"],
        "plays": ["Play"],
        "singles": ["undoings", "units", "is_group", "divides"],
        "cancelling": ["cancels_ahead", "cancels_behind", "Cancels", "exchanges", "Exchanges"],
        "powers": ["powers", "power"],
        "tables": ["table", "Table"],
        "groupoids": ["undo_signs", "places", "undone", "undone_lot"],
        "groupparts": ["parts", "Parts", "standard", "Standard"],
        "samegroups": ["same_group", "SameGroup"],
        "carrying": ["order", "carried", "root", "exchanging"],
        "sendings": ["Sending", "Keeps", "Onto"],
        "readers": ["Reader", "AllRight"],
        "expressions": ["parse", "write"],
        "values": ["value", "value_of"],
        "booklines": ["write_book", "read_book"],
        "desks": ["Desk"],
    }
    PARAMETERS = {
        "checked_automaton": ["signs", "thing"], "accepts": ["signs", "automaton", "text"],
        "least_automaton": ["signs", "automaton"], "within": ["signs", "one", "other"],
        "steps": ["book", "text"], "step": ["book", "text", "place", "number"], "played": ["book", "text", "run"],
        "shrinks": ["book", "text"], "ends": ["book", "text"], "overlaps": ["book"], "settled": ["book"],
        "least_book": ["book"], "same_ends": ["one", "other"], "says": ["one", "other"],
        "closed_edges": ["book", "automaton"], "descends": ["book", "automaton"], "closing": ["book", "automaton"],
        "judge_closing": ["book", "automaton", "paper"], "origin": ["book", "automaton", "edge"],
        "all_end": ["book", "automaton", "goal"], "price_table": ["book", "prices", "mends", "automaton"],
        "cheapest": ["book", "prices", "mends", "automaton", "goal"], "whole": ["book"], "single": ["book", "text"],
        "meaning": ["book", "text"], "alike": ["book", "one", "other"], "lies_within": ["one", "other"],
        "measured": ["lot"], "plainly": ["lot", "most"], "some_behind": ["first", "goal"],
        "every_behind": ["first", "goal"], "some_ahead": ["last", "goal"], "every_ahead": ["last", "goal"],
        "between": ["first", "last", "goal"], "solutions": ["book", "conditions"], "undoings": ["book", "text"],
        "units": ["book"], "is_group": ["book"], "divides": ["book", "one", "other"], "cancels_ahead": ["book"],
        "cancels_behind": ["book"], "exchanges": ["book"], "powers": ["book", "text"],
        "power": ["book", "text", "goal"], "table": ["book"], "undo_signs": ["book"], "places": ["book"],
        "undone": ["book", "text"], "undone_lot": ["lot"], "parts": ["book"], "standard": ["book"],
        "same_group": ["one", "other"], "order": ["book", "text"], "carried": ["book", "one", "other"],
        "root": ["book", "text"], "exchanging": ["book", "text"], "parse": ["signs", "text"],
        "write": ["signs", "tree"], "value": ["book", "tree"], "value_of": ["book", "text"], "write_book": ["book"],
        "read_book": ["lines"],
    }
    METHODS = {
        "Book": {"__init__": ["self", "signs", "rules"], "quarrel": ["self"], "__len__": ["self"],
                 "__iter__": ["self"], "__eq__": ["self", "other"], "__call__": ["self", "text"],
                 "__getitem__": ["self", "at"]},
        "Lot": {"__init__": ["self", "book", "automaton"], "__contains__": ["self", "text"],
                "__or__": ["self", "other"], "__and__": ["self", "other"], "__sub__": ["self", "other"],
                "__mul__": ["self", "other"], "__eq__": ["self", "other"], "again": ["self"], "least": ["self"],
                "listed": ["self", "many"], "counted": ["self", "size"]},
        "Saying": {"__init__": ["self", "goal", "turns"], "__bool__": ["self"], "best": ["self", "turn", "stands"],
                   "turned": ["self"]},
        "Play": {"__init__": ["self", "saying", "start"], "start": ["self"], "stands": ["self"], "turn": ["self"],
                 "winner": ["self"], "over": ["self"], "pick": ["self", "text"], "undo": ["self"]},
        "Sending": {"__init__": ["self", "one", "other", "images"], "__call__": ["self", "text"], "keeps": ["self"],
                    "onto": ["self"], "sent": ["self", "lot"], "__mul__": ["self", "other"],
                    "undone_by": ["self", "other_sending"], "__eq__": ["self", "other"]},
        "Reader": {"__init__": ["self", "goal"], "live": ["self"], "right": ["self", "text"],
                   "fault": ["self", "text"], "wanted": ["self", "text"], "completion": ["self", "text"],
                   "fillings": ["self", "ahead", "behind"], "all_right": ["self", "automaton"],
                   "mending": ["self", "text", "prices", "mends"]},
        "Desk": {"__init__": ["self", "signs", "rules"], "current_book": ["self"], "claims": ["self"],
                 "verdicts": ["self"], "add_rule": ["self", "left", "right"], "strike_rule": ["self", "number"],
                 "add_claim": ["self", "title", "turns", "goal"], "drop_claim": ["self", "title"], "undo": ["self"],
                 "redo": ["self"], "twin": ["self"]},
    }
    ATTRIBUTES = {
        "Within": "holds text", "Book": "signs rules", "Settled": "holds meets text ends",
        "SameEnds": "holds text one_end other_end", "Says": "holds number", "AllEnd": "holds end text",
        "Cheapest": "holds price text goal_text run", "Lot": "book automaton", "LiesWithin": "holds end",
        "Measured": "holds number longest ring", "Plainly": "holds automaton meanings parting",
        "Saying": "goal turns plan starts holds", "Play": "saying picks", "Cancels": "holds sign pair",
        "Exchanges": "holds pair", "Table": "holds ends rows ring", "Parts": "rank tables",
        "Standard": "book there back", "SameGroup": "holds there back reason", "Sending": "one other images",
        "Keeps": "holds number", "Onto": "holds sign", "Reader": "goal", "AllRight": "holds text at",
    }

    def test_all_is_defined_where_it_is_listed(self):
        for stem, names in self.PLACES.items():
            for word in names:
                self.assertIn(word, defined_in(TREES[stem + ".py"]), stem)

    def test_parameters(self):
        functions, _ = own_names()
        for word, names in self.PARAMETERS.items():
            self.assertEqual(parameters(functions[word]), names, word)

    def test_methods_stand_in_the_class_itself(self):
        kinds = {kind.name: kind for tree in TREES.values() for kind in classes_of(tree)}
        for word, listed in self.METHODS.items():
            own = {node.name: parameters(node) for node in kinds[word].body if isinstance(node, ast.FunctionDef)}
            for method, names in listed.items():
                self.assertEqual(own[method], names, (word, method))

    def test_attributes_are_set_when_an_object_is_made(self):
        kinds = {kind.name: kind for tree in TREES.values() for kind in classes_of(tree)}
        for word, listed in self.ATTRIBUTES.items():
            made = [node for node in kinds[word].body if isinstance(node, ast.FunctionDef) and node.name == "__init__"]
            stored = {node.attr for node in ast.walk(made[0]) if isinstance(node, ast.Attribute)
                      and isinstance(node.ctx, ast.Store) and node.value.id == "self"}
            self.assertLessEqual(set(listed.split()), stored, word)

    def test_verdicts_have_a_truth(self):
        for tree in TREES.values():
            for kind in classes_of(tree):
                stored = [node.attr for node in ast.walk(kind) if isinstance(node, ast.Attribute)
                          and isinstance(node.ctx, ast.Store)]
                if "holds" in stored:
                    self.assertIn("__bool__", [node.name for node in kind.body if isinstance(node, ast.FunctionDef)])


if __name__ == "__main__":
    unittest.main()
