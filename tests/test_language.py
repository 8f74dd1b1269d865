"""That the package keeps the rules of LANGUAGE.md that a plain look can check. The names of the tests give them."""

import ast
import builtins
import functools
import pathlib
import re
import unittest
import warnings

FOLDER = pathlib.Path(__file__).resolve().parent.parent / "kindgrove"
FILES = sorted(path for path in FOLDER.rglob("*") if "__pycache__" not in path.parts)
TEXTS = {path.name: path.read_bytes().decode("utf-8") for path in FILES if path.suffix == ".py"}
TREES = {name: ast.parse(text) for name, text in TEXTS.items()}

USABLE_BUILTINS = set("""len range enumerate zip min max sum abs sorted reversed int str bool bytes list tuple dict set
    frozenset isinstance ord repr any all divmod Exception ValueError TypeError KeyError IndexError LookupError
    ZeroDivisionError ArithmeticError OverflowError RuntimeError NotImplementedError AttributeError StopIteration
    NotImplemented iter next property staticmethod classmethod super""".split())
BUILTIN_METHODS = set("""append clear copy count endswith extend find get index insert isalnum isalpha isdigit islower
    isspace isupper items join keys ljust lower lstrip partition pop remove replace reverse rfind rjust rpartition
    rsplit rstrip setdefault split splitlines startswith strip update upper values zfill bit_length title capitalize
    swapcase casefold center expandtabs removeprefix removesuffix rindex isascii isdecimal isnumeric istitle
    isidentifier isprintable translate encode decode hex sort add discard""".split())
NEVER_ATTRIBUTES = set("""items keys values pop update append clear extend insert remove reverse setdefault sort args
    encode decode hex fromhex format as_integer_ratio bit_count conjugate from_bytes is_integer to_bytes""".split())
NEVER_NAMES = set("""register mro elements open input law version_info with_traceback add_note attrgetter breakpoint
    builtins compile copyright credits delattr dir eval exec exit gc getattr globals hasattr help id importlib license
    locals methodcaller os quit setattr super type vars sys __name__""".split())
NEVER_WORDS = set("""type typing typing_extensions enum Enum IntEnum StrEnum Flag IntFlag Generic Protocol ABC ABCMeta
    namedtuple NamedTuple TypedDict TYPE_CHECKING abstractmethod""".split())
SPECIAL_METHODS = {"__init__", "__eq__", "__repr__", "__str__", "__len__", "__enter__", "__exit__", "__call__",
                   "__iter__", "__bool__", "__contains__", "__getitem__", "__setitem__", "__and__", "__or__",
                   "__invert__", "__ior__"}
FUNCTIONS = (ast.FunctionDef, ast.Lambda)


@functools.cache
def walk_all():
    return [(name, node) for name, tree in TREES.items() for node in ast.walk(tree)]


def found(*kinds):
    return [(name, node) for name, node in walk_all() if isinstance(node, kinds)]


@functools.cache
def classes():
    return [node for _, node in found(ast.ClassDef)]


def methods_of(node):
    return [part for part in node.body if isinstance(part, ast.FunctionDef)]


@functools.cache
def own_methods():
    return {method.name for node in classes() for method in methods_of(node)}


@functools.cache
def own_properties():
    return {method.name for node in classes() for method in methods_of(node) if is_property(method)}


def is_property(method):
    return any(isinstance(part, ast.Name) and part.id == "property" for part in method.decorator_list)


@functools.cache
def own_attributes():
    return {node.attr for _, node in found(ast.Attribute) if isinstance(node.ctx, ast.Store)}


def parameters(node):
    told = node.args
    more = [part for part in (told.vararg, told.kwarg) if part]
    return [part.arg for part in told.posonlyargs + told.args + told.kwonlyargs + more]


@functools.cache
def generators():
    names = set()
    for _, node in found(ast.FunctionDef):
        if any(isinstance(part, (ast.Yield, ast.YieldFrom)) for part in ast.walk(node)):
            names.add(node.name)
    return names


def is_docstring(node):
    return isinstance(node, ast.Expr) and isinstance(node.value, ast.Constant) and isinstance(node.value.value, str)


class FilesTest(unittest.TestCase):

    def test_l1_l14_files(self):
        self.assertIn("__init__.py", TEXTS)
        for path in FILES:
            self.assertEqual(path.suffix, ".py")
            self.assertEqual(path.parent, FOLDER)
            self.assertRegex(path.name, r"^(__init__|[a-z][a-z0-9_]*)\.py$")
            self.assertNotIn(path.stem, dir(builtins))

    def test_l10_sizes(self):
        for name, text in TEXTS.items():
            lines = text.split("\n")
            self.assertLessEqual(len(lines) - 1, 399, name)
            for line in lines:
                self.assertLessEqual(len(line), 120, (name, line))
        for name, node in found(ast.FunctionDef):
            first = min([node.lineno] + [part.lineno for part in node.decorator_list])
            self.assertLessEqual(node.end_lineno - first + 1, 40, (name, node.name))

    def test_l14_characters(self):
        for name, text in TEXTS.items():
            self.assertEqual([sign for sign in text if sign != "\n" and not " " <= sign <= "~"], [], name)

    def test_l17_words(self):
        for name, text in TEXTS.items():
            self.assertEqual(set(re.findall(r"\w+", text)) & NEVER_WORDS, set(), name)
            for word in ("dataclass", "overload", "contextmanager"):
                self.assertNotIn(word, text, name)

    def test_l27_strings(self):
        for name, node in found(ast.Constant):
            if isinstance(node.value, str):
                self.assertNotIn("%", node.value, name)
                self.assertNotRegex(node.value, r"\._{1,2}$|^__|[^ -~\n]", name)
        for name, text in TEXTS.items():
            self.assertEqual(re.findall(r"\\[^nt\\'\"]", text), [], name)

    def test_l27_no_warnings(self):
        for name, text in TEXTS.items():
            with warnings.catch_warnings():
                warnings.simplefilter("error")
                compile(text, name, "exec")


class ImportsTest(unittest.TestCase):

    def imports(self):
        return [(name, node.module.split(".")[1] + ".py", [part.name for part in node.names])
                for name, node in found(ast.ImportFrom)]

    def test_l2_l16_forms(self):
        self.assertEqual(found(ast.Import), [])
        for name, node in found(ast.ImportFrom):
            self.assertEqual(node.level, 0, name)
            self.assertRegex(node.module, r"^kindgrove\.[a-z]+$", name)
            self.assertIn(node, TREES[name].body)
            self.assertTrue(all(part.asname is None and part.name != "*" for part in node.names), name)

    def test_l16_names_come_from_the_file_that_defines_them(self):
        for name, source, names in self.imports():
            for wanted in names:
                self.assertIn(wanted, self.defined(TREES[source]), name)

    def defined(self, tree):
        names = [node.name for node in tree.body if isinstance(node, (ast.FunctionDef, ast.ClassDef))]
        return names + [node.targets[0].id for node in tree.body if isinstance(node, ast.Assign)]

    def test_l16_no_rings(self):
        needs = {name: {source for other, source, _ in self.imports() if other == name} for name in TREES}
        while needs:
            free = [name for name in needs if not needs[name] & set(needs)]
            self.assertNotEqual(free, [], needs)
            needs = {name: more for name, more in needs.items() if name not in free}

    def test_imports_are_used_and_bound_once(self):
        for name, tree in TREES.items():
            used = {node.id for node in ast.walk(tree) if isinstance(node, ast.Name)}
            imported = [wanted for other, _, names in self.imports() if other == name for wanted in names]
            self.assertEqual([wanted for wanted in imported if wanted not in used], [], name)
            bound = imported + self.defined(tree)
            self.assertEqual(len(bound), len(set(bound)), name)

    def test_l3_module_level(self):
        for name, tree in TREES.items():
            for at, node in enumerate(tree.body):
                if isinstance(node, ast.Assign):
                    self.assertTrue(len(node.targets) == 1 and isinstance(node.targets[0], ast.Name), name)
                    self.assertFalse(any(isinstance(part, ast.Call) for part in ast.walk(node.value)), name)
                elif not (at == 0 and is_docstring(node)):
                    self.assertIsInstance(node, (ast.ImportFrom, ast.FunctionDef, ast.ClassDef), name)


class NamesTest(unittest.TestCase):

    def bound_names(self):
        for name, node in walk_all():
            if isinstance(node, FUNCTIONS):
                yield from ((name, told) for told in parameters(node))
            if isinstance(node, (ast.FunctionDef, ast.ClassDef)):
                yield name, node.name
            if isinstance(node, ast.Name) and isinstance(node.ctx, ast.Store):
                yield name, node.id
            if isinstance(node, ast.Attribute) and isinstance(node.ctx, ast.Store):
                yield name, node.attr

    def test_l12_plain_names(self):
        for name, bound in self.bound_names():
            if bound not in SPECIAL_METHODS:
                self.assertRegex(bound, r"^[A-Za-z][A-Za-z0-9_]*$", name)

    def test_l15_l17_names_with_another_meaning(self):
        for name, bound in self.bound_names():
            self.assertNotIn(bound, NEVER_NAMES, name)
        for name, node in walk_all():
            if isinstance(node, FUNCTIONS):
                for told in parameters(node):
                    self.assertNotIn(told, dir(builtins), name)
            if isinstance(node, ast.Name) and isinstance(node.ctx, ast.Store):
                self.assertNotIn(node.id, dir(builtins), name)
        for name, tree in TREES.items():
            for node in tree.body:
                if isinstance(node, (ast.FunctionDef, ast.ClassDef)):
                    self.assertNotIn(node.name, dir(builtins), name)

    def test_l15_no_local_name_of_a_class_or_an_import(self):
        for name, tree in TREES.items():
            taken = {node.name for node in tree.body if isinstance(node, ast.ClassDef)}
            for node in tree.body:
                if isinstance(node, ast.ImportFrom):
                    taken |= {part.name for part in node.names}
            for function in ast.walk(tree):
                if isinstance(function, FUNCTIONS):
                    inside = [part.id for part in ast.walk(function)
                              if isinstance(part, ast.Name) and isinstance(part.ctx, ast.Store)]
                    self.assertEqual(set(inside + parameters(function)) & taken, set(), name)

    def test_l8_builtins(self):
        for name, node in found(ast.Name):
            if isinstance(node.ctx, ast.Load) and node.id in dir(builtins):
                self.assertIn(node.id, USABLE_BUILTINS, name)

    def test_l18_methods_and_attributes(self):
        self.assertEqual(own_methods() & own_attributes(), set())
        self.assertEqual(own_attributes() & NEVER_ATTRIBUTES, set())

    def test_l18_l25_what_is_read_and_called_is_there(self):
        called = {node.func: node for _, node in found(ast.Call) if isinstance(node.func, ast.Attribute)}
        decorators = {part for _, node in found(ast.FunctionDef) for part in node.decorator_list}
        for name, node in found(ast.Attribute):
            if node in called:
                # An attribute may hold a callable object (L5).
                self.assertIn(node.attr, BUILTIN_METHODS | own_methods() | own_attributes(), name)
            elif isinstance(node.ctx, ast.Load) and node not in decorators:
                self.assertIn(node.attr, own_attributes() | own_properties(), name)

    def test_l26_methods_of_builtin_values(self):
        usable = BUILTIN_METHODS - {"encode", "decode", "hex", "sort"} | SPECIAL_METHODS
        for kind in (str, int, list, dict, set, bytes):
            self.assertLessEqual(own_methods() & set(dir(kind)), usable)
            self.assertLessEqual(own_properties() & set(dir(kind)), set())


class FormsTest(unittest.TestCase):

    def test_l4_l5_decorators_and_parameters(self):
        methods = {method for node in classes() for method in methods_of(node)}
        for name, node in found(ast.FunctionDef):
            self.assertEqual(node.args.posonlyargs, [], name)
            for part in node.decorator_list:
                self.assertIn(node, methods, name)
                self.assertTrue(isinstance(part, ast.Attribute) and part.attr == "setter"
                                or part.id in ("property", "staticmethod", "classmethod"), name)
            for told in node.args.defaults + [part for part in node.args.kw_defaults if part]:
                self.assertIsInstance(told, (ast.Constant, ast.UnaryOp, ast.Tuple), name)

    def test_l5_l15_classes(self):
        for name, node in found(ast.ClassDef):
            self.assertIn(node, TREES[name].body)
            self.assertEqual(node.decorator_list + node.keywords, [])
            names = [method.name for method in methods_of(node)]
            self.assertEqual(len(names), len(set(names)), node.name)
            for method in names:
                if method.startswith("_"):
                    self.assertIn(method, SPECIAL_METHODS, node.name)

    def test_l6_l7_statements_and_expressions(self):
        never = (ast.Global, ast.AsyncFunctionDef, ast.AsyncFor, ast.AsyncWith, ast.Await, ast.Div, ast.MatMult)
        self.assertEqual(found(*never), [])
        for name, node in found(ast.Constant):
            self.assertNotIsInstance(node.value, (float, complex), name)
        for name, node in found(ast.BinOp):
            if isinstance(node.op, ast.Pow):
                self.assertIsInstance(node.right, ast.Constant, name)

    def test_l19_errors(self):
        for name, node in found(ast.Raise):
            self.assertTrue(node.exc is None or isinstance(node.exc, ast.Call) and isinstance(node.exc.func, ast.Name))
        own_errors = {node.name for node in TREES["errors.py"].body if isinstance(node, ast.ClassDef)}
        for name, node in found(ast.ExceptHandler):
            caught = node.type.elts if isinstance(node.type, ast.Tuple) else [node.type]
            self.assertLessEqual({part.id for part in caught}, own_errors | {"KeyError", "ZeroDivisionError"}, name)

    def test_l19_names_of_caught_errors(self):
        for name, function in found(ast.FunctionDef):
            handlers = [node.name for node in ast.walk(function) if isinstance(node, ast.ExceptHandler) and node.name]
            taken = parameters(function) + [node.id for node in ast.walk(function)
                                            if isinstance(node, ast.Name) and isinstance(node.ctx, ast.Store)]
            self.assertEqual(len(handlers), len(set(handlers)), name)
            self.assertEqual(set(handlers) & set(taken), set(), name)
            for handler in ast.walk(function):
                if isinstance(handler, ast.ExceptHandler) and handler.name:
                    read = [node for node in ast.walk(handler)
                            if isinstance(node, ast.Name) and node.id == handler.name]
                    told = [node.value for node in ast.walk(handler) if isinstance(node, ast.Attribute)]
                    self.assertTrue(all(node in told for node in read), name)

    def test_l20_is(self):
        for name, node in found(ast.Compare):
            for sign, right in zip(node.ops, node.comparators):
                if isinstance(sign, (ast.Is, ast.IsNot)):
                    self.assertTrue(isinstance(right, ast.Constant) and right.value in (None, True, False), name)

    def test_l22_isinstance(self):
        for name, node in found(ast.Call):
            if isinstance(node.func, ast.Name) and node.func.id == "isinstance":
                told = node.args[1]
                for part in told.elts if isinstance(told, ast.Tuple) else [told]:
                    self.assertIsInstance(part, ast.Name, name)

    def test_l22_keywords_of_builtins(self):
        for name, node in found(ast.Call):
            if isinstance(node.func, ast.Name) and node.func.id in dir(builtins) and node.keywords:
                self.assertLessEqual({part.arg for part in node.keywords},
                                     {"key", "reverse", "default", "start", "strict"}, name)

    def test_l5_l7_lists_in_the_place_of_generator_expressions(self):
        for name, node in found(ast.Call):
            if isinstance(node.func, ast.Name) and node.func.id in ("any", "all", "sum", "min", "max", "sorted"):
                for part in node.args:
                    self.assertNotIsInstance(part, ast.GeneratorExp, name)
                    if isinstance(part, ast.Call):
                        told = part.func.id if isinstance(part.func, ast.Name) else part.func.attr
                        self.assertNotIn(told, generators(), name)

    def test_l7_l24_no_sets(self):
        # As a class has a method add, a set could not be stored (L24); dicts serve.
        self.assertEqual(found(ast.Set, ast.SetComp), [])
        self.assertEqual([name for name, node in found(ast.Name) if node.id in ("set", "frozenset")], [])

    def test_l7_stars_in_calls(self):
        for name, node in found(ast.Call):
            if any(isinstance(part, ast.Starred) for part in node.args):
                self.assertIn(ast.unparse(node.func), ("zip", "max", "min"), name)
                self.assertTrue(all(isinstance(part.value, ast.Name) for part in node.args), name)
            self.assertTrue(all(part.arg for part in node.keywords), name)

    def test_l22_keys_of_sorted_min_and_max(self):
        functions = {node.name for tree in TREES.values() for node in tree.body if isinstance(node, ast.FunctionDef)}
        usable = functions | {"len", "int", "str", "abs", "sum", "min", "max", "tuple"}
        for name, node in found(ast.keyword):
            if node.arg == "key":
                self.assertTrue(isinstance(node.value, ast.Lambda) or node.value.id in usable, name)

    def test_l23_what_is_iterated_on_the_spot(self):
        spots = []
        for _, node in walk_all():
            if isinstance(node, (ast.For, ast.comprehension)):
                spots.append(node.iter)
            elif isinstance(node, ast.Call) and ast.unparse(node.func) in (
                    "list", "tuple", "dict", "sorted", "sum", "any", "all", "enumerate", "zip", "min", "max"):
                spots += node.args[:1]
        for name, node in found(ast.Call):
            told = node.func.id if isinstance(node.func, ast.Name) else node.func.attr
            if told in ("zip", "enumerate", "reversed", "range", "items", "keys", "values"):
                self.assertTrue(node in spots, (name, node.lineno))

    def test_l5_no_sort(self):
        for name, node in found(ast.Attribute):
            self.assertNotEqual(node.attr, "sort", name)

    def test_l28_len(self):
        for node in classes():
            for method in methods_of(node):
                if method.name == "__len__":
                    for part in ast.walk(method):
                        if isinstance(part, ast.Return):
                            self.assertTrue(isinstance(part.value, ast.Constant)
                                            or ast.unparse(part.value).startswith("len("))


OPERATORS = {"__lt__": 2, "__le__": 2, "__gt__": 2, "__ge__": 2, "__ne__": 2, "__eq__": 2, "__and__": 2, "__or__": 2,
             "__ior__": 2, "__invert__": 1, "__bool__": 1, "__len__": 1, "__iter__": 1, "__contains__": 2,
             "__getitem__": 2, "__setitem__": 3}
MAY_CHANGE = {"__ior__", "__setitem__"}


class OperatorsTest(unittest.TestCase):

    def functions(self):
        """All functions and methods by their names, those of one name together; a class stands for its __init__."""
        told = {}
        for _, node in found(ast.FunctionDef):
            told.setdefault(node.name, []).append(node)
        for node in classes():
            told[node.name] = [method for method in methods_of(node) if method.name == "__init__"]
        return told

    def quiet_ones(self):
        """What may change nothing: operators, properties, and every function that they call."""
        functions = self.functions()
        waiting = [method for node in classes() for method in methods_of(node)
                   if is_property(method) or method.name in OPERATORS and method.name not in MAY_CHANGE]
        quiet = []
        while waiting:
            method = waiting.pop()
            if method not in quiet:
                quiet.append(method)
                for node in ast.walk(method):
                    if isinstance(node, ast.Call):
                        told = node.func.id if isinstance(node.func, ast.Name) else node.func.attr
                        waiting += functions.get(told, [])
                    elif isinstance(node, ast.Subscript):
                        waiting += functions.get("__getitem__", [])
        return quiet

    def test_l5_parameters(self):
        for node in classes():
            for method in methods_of(node):
                if method.name in OPERATORS:
                    self.assertEqual(len(parameters(method)), OPERATORS[method.name], method.name)
                    self.assertEqual(len(method.args.args), OPERATORS[method.name])
                    self.assertEqual((method.args.defaults, method.decorator_list), ([], []))

    def test_l5_operators_and_properties_change_nothing(self):
        for method in self.quiet_ones():
            for node in ast.walk(method):
                is_changed = isinstance(node, (ast.Attribute, ast.Subscript)) and not isinstance(node.ctx, ast.Load)
                is_own = isinstance(node, ast.Attribute) and ast.unparse(node.value) == "self"
                self.assertFalse(is_changed and not (is_own and method.name == "__init__"), method.name)
                self.assertNotIsInstance(node, (ast.Delete, ast.Yield, ast.YieldFrom), method.name)
                if isinstance(node, ast.AugAssign):
                    self.assertTrue(isinstance(node.target, ast.Name) and isinstance(node.value, ast.Constant))

    def test_l5_operators_and_properties_call_nothing_that_they_hold(self):
        for method in self.quiet_ones():
            for node in ast.walk(method):
                if isinstance(node, ast.Call) and isinstance(node.func, ast.Attribute):
                    self.assertNotIn(node.func.attr, own_attributes(), method.name)
                    self.assertNotIn(node.func.attr, {"append", "extend", "pop", "clear", "update", "insert", "remove",
                                                      "setdefault", "sort", "reverse"}, method.name)
                elif isinstance(node, ast.Call):
                    self.assertNotIn(node.func.id, parameters(method), method.name)

    def test_l5_iteration(self):
        for node in classes():
            names = [method.name for method in methods_of(node)]
            if "__getitem__" in names:
                self.assertIn("__iter__", names)
            for method in methods_of(node):
                if method.name == "__iter__":
                    self.assertEqual(len(method.body), 1)
                    self.assertRegex(ast.unparse(method.body[0]), r"^raise TypeError\('[^']+'\)$")
        self.assertNotIn("keys", own_methods() | own_attributes())

    def test_l5_reversed(self):
        for name, node in found(ast.Call):
            if ast.unparse(node.func) == "reversed":
                self.assertRegex(ast.unparse(node.args[0]), r"^(list|tuple|sorted|range)\(", name)

    def test_l5_not_by_name(self):
        for name, node in found(ast.Attribute):
            if node.attr.startswith("_"):
                self.assertEqual(node.attr, "__init__", name)

    def test_l5_not_implemented(self):
        self.assertEqual([name for name, node in found(ast.Name) if node.id == "NotImplemented"], [])

    def test_l5_super(self):
        told = [ast.unparse(node) for _, node in found(ast.Call) if ast.unparse(node.func) == "super"]
        self.assertEqual(set(told), {"super()"})
        methods = [method for node in classes() for method in methods_of(node)]
        used = [node for method in methods for statement in ast.walk(method) if isinstance(statement, ast.Return)
                for node in ast.walk(statement) if isinstance(node, ast.Call)
                and ast.unparse(node.func).startswith("super().")]
        self.assertEqual(len(used), len(told))
        for method in methods:
            if "super()" in ast.unparse(method):
                self.assertTrue(parameters(method)[0] == "self" and method.decorator_list == [])

    def test_l5_bool_and_l28_eq(self):
        for node in classes():
            for method in methods_of(node):
                if method.name in ("__bool__", "__len__"):
                    self.assertIsInstance(method.body[-1], ast.Return)
                if method.name == "__bool__":
                    self.assertRegex(ast.unparse(method.body[-1]), r"^return bool\(")


class GeneratorsTest(unittest.TestCase):

    def test_l23_names(self):
        names = [node.name for _, node in found(ast.FunctionDef)]
        for name in generators():
            self.assertEqual(names.count(name), 1)
            self.assertNotIn(name, BUILTIN_METHODS)

    def test_l23_calls_are_iterated_at_once(self):
        iterated = []
        for _, node in walk_all():
            if isinstance(node, (ast.For, ast.comprehension)):
                iterated.append(node.iter)
            elif isinstance(node, ast.YieldFrom):
                iterated.append(node.value)
            elif isinstance(node, ast.Call) and isinstance(node.func, ast.Name) and node.func.id in ("list", "tuple"):
                iterated += node.args
        for name, node in walk_all():
            if isinstance(node, ast.Call):
                told = node.func.id if isinstance(node.func, ast.Name) else getattr(node.func, "attr", "")
                if told in generators():
                    self.assertIn(node, iterated, name)
                    for part in node.args:
                        allowed = (ast.Name, ast.Attribute, ast.Constant, ast.Lambda, ast.Tuple)
                        self.assertIsInstance(part, allowed, name)

    def test_l23_where_yields_stand(self):
        statements = [node.value for _, node in found(ast.Expr)]
        for name, node in found(ast.Yield, ast.YieldFrom):
            self.assertIn(node, statements, name)
        for name, node in found(ast.Try, ast.With):
            self.assertFalse(any(isinstance(part, (ast.Yield, ast.YieldFrom)) for part in ast.walk(node)), name)

    def test_l23_what_is_iterated_at_once(self):
        for name, node in walk_all():
            if isinstance(node, ast.Assign) and isinstance(node.value, ast.Call):
                told = node.value.func
                self.assertNotIn(told.id if isinstance(told, ast.Name) else told.attr,
                                 {"zip", "enumerate", "reversed", "range", "items", "keys", "values"} | generators(),
                                 name)


if __name__ == "__main__":
    unittest.main()
