"""The form of the package's own files: what of the language's rules can be seen in a file."""

import ast
import builtins
import pathlib
import re
import unittest

ROOT = pathlib.Path(__file__).resolve().parent.parent
PACKAGE = ROOT / "upwords"

NODES = """Module FunctionDef arguments arg ClassDef Return Assign AugAssign For While If Raise Try ExceptHandler
ImportFrom alias Expr Pass Break Continue BoolOp And Or BinOp Add Sub Mult FloorDiv Mod Pow BitAnd BitOr BitXor
LShift RShift UnaryOp Not USub Invert Lambda IfExp Dict Set ListComp comprehension Compare Eq NotEq Lt LtE Gt GtE
Is IsNot In NotIn Call keyword JoinedStr FormattedValue Constant Attribute Subscript Slice Name Load Store List
Tuple""".split()

BUILTINS = """len range enumerate zip min max sum abs sorted reversed int str bool list tuple dict set isinstance ord
repr any all divmod Exception ValueError TypeError KeyError IndexError LookupError ZeroDivisionError ArithmeticError
OverflowError RuntimeError NotImplementedError StopIteration""".split()

METHODS = """append clear copy count endswith extend find get index insert isalnum isalpha isdigit islower isspace
isupper items join keys ljust lower lstrip partition pop remove replace reverse rfind rjust rpartition rsplit rstrip
setdefault split splitlines startswith strip update upper values zfill bit_length""".split()

WORDS = """type typing typing_extensions enum Enum IntEnum StrEnum Flag IntFlag Generic Protocol ABC ABCMeta
namedtuple NamedTuple TypedDict TYPE_CHECKING abstractmethod""".split()

NOT_NAMES = """register mro elements open input version_info with_traceback add_note attrgetter breakpoint builtins
compile copyright credits delattr dir eval exec exit gc getattr globals hasattr help id importlib license locals
methodcaller os quit setattr super type vars sys format format_map chr""".split()

WALKED = ("range", "enumerate", "zip", "reversed", "items", "keys", "values")
WALKERS = ("list", "tuple", "dict", "sorted", "sum", "any", "all", "enumerate", "zip", "min", "max", "join")
SPECIAL = ("__init__", "__eq__", "__repr__", "__str__", "__len__")


def files():
    return sorted(PACKAGE.rglob("*.py"))


def parsed(file):
    return ast.parse(file.read_text())


def called(node):
    if isinstance(node, ast.Call):
        return getattr(node.func, "id", getattr(node.func, "attr", None))
    return None


def bound_in(tree):
    """Every name that is given a meaning somewhere in a file."""
    found = []
    for node in ast.walk(tree):
        if isinstance(node, (ast.FunctionDef, ast.ClassDef)):
            found.append(node.name)
        elif isinstance(node, ast.arg):
            found.append(node.arg)
        elif isinstance(node, ast.Name) and isinstance(node.ctx, ast.Store):
            found.append(node.id)
        elif isinstance(node, ast.Attribute) and isinstance(node.ctx, ast.Store):
            found.append(node.attr)
        elif isinstance(node, ast.ExceptHandler) and node.name:
            found.append(node.name)
    return found


def drawn_from(tree):
    return [node.module for node in ast.walk(tree) if isinstance(node, ast.ImportFrom)]


class Form(unittest.TestCase):

    def each_node(self):
        for file in files():
            tree = parsed(file)
            for node in ast.walk(tree):
                yield f"{file.name}:{getattr(node, 'lineno', 0)}", node

    def test_only_plain_files_lie_in_the_package(self):
        for found in PACKAGE.rglob("*"):
            if "__pycache__" not in found.parts:
                self.assertRegex(found.name, r"^([a-z][a-z0-9_]*|__init__|__main__)\.py$")

    def test_sizes_and_signs(self):
        for file in files():
            text = file.read_bytes().decode("ascii")
            self.assertTrue(set(text) <= set("\n") | {chr(k) for k in range(32, 127)}, file.name)
            self.assertLessEqual(text.count("\n"), 400)
            self.assertLessEqual(max(len(line) for line in text.split("\n")), 120)

    def test_functions_are_short(self):
        for where, node in self.each_node():
            if isinstance(node, ast.FunctionDef):
                self.assertLessEqual(node.end_lineno - node.lineno + 1, 40, where)

    def test_words_that_stand_nowhere(self):
        for file in files():
            words = re.findall(r"[A-Za-z_]+", file.read_text())
            self.assertEqual([word for word in words if word in WORDS], [], file.name)
            self.assertIsNone(re.search("dataclass|overload|contextmanager", file.read_text()), file.name)

    def test_only_plain_steps(self):
        for where, node in self.each_node():
            self.assertIn(type(node).__name__, NODES, where)
            if isinstance(node, (ast.For, ast.While, ast.Try)):
                self.assertFalse(getattr(node, "finalbody", None), where)
                self.assertFalse(node.orelse and not isinstance(node, ast.Try), where)
            if isinstance(node, (ast.FunctionDef, ast.ClassDef)):
                self.assertEqual(node.decorator_list, [], where)
            if isinstance(node, ast.FunctionDef):
                self.assertIsNone(node.returns, where)
            if isinstance(node, ast.arguments):
                self.assertFalse(node.vararg or node.kwarg or node.kwonlyargs or node.posonlyargs, where)
            if isinstance(node, ast.Assign):
                self.assertEqual(len(node.targets), 1, where)
            if isinstance(node, ast.ListComp):
                self.assertEqual(len(node.generators), 1, where)
                self.assertLessEqual(len(node.generators[0].ifs), 1, where)
            if isinstance(node, ast.Constant):
                self.assertIn(type(node.value), (int, str, bool, type(None)), where)
                self.assertNotIn("%", node.value if isinstance(node.value, str) else "", where)
            if isinstance(node, ast.Compare):
                for step, other in zip(node.ops, node.comparators):
                    if isinstance(step, (ast.Is, ast.IsNot)):
                        self.assertIn(getattr(other, "value", ""), (None, True, False), where)

    def test_a_call_alone_or_the_file_s_own_words(self):
        for file in files():
            tree = parsed(file)
            self.assertTrue(ast.get_docstring(tree), file.name)
            for node in ast.walk(tree):
                if isinstance(node, ast.Expr) and node is not tree.body[0]:
                    self.assertIsInstance(node.value, ast.Call, f"{file.name}:{node.lineno}")

    def test_imports_are_the_package_s_own_by_name(self):
        tops = {}
        for file in files():
            tops["upwords." + file.stem] = [
                getattr(node, "name", None) or node.targets[0].id for node in parsed(file).body
                if isinstance(node, (ast.FunctionDef, ast.ClassDef, ast.Assign))]
        for where, node in self.each_node():
            if isinstance(node, ast.ImportFrom):
                self.assertEqual(node.level, 0, where)
                for name in node.names:
                    self.assertIn(name.name, tops.get(node.module, []), where)
                    self.assertIsNone(name.asname, where)

    def test_no_two_files_draw_from_one_another(self):
        left = {"upwords." + file.stem: drawn_from(parsed(file)) for file in files()}
        while left:
            free = [name for name, needed in left.items() if not any(need in left for need in needed)]
            self.assertTrue(free, sorted(left))
            left = {name: needed for name, needed in left.items() if name not in free}

    def test_plain_names(self):
        for file in files():
            for name in bound_in(parsed(file)):
                if name not in SPECIAL:
                    self.assertRegex(name, r"^[A-Za-z][A-Za-z0-9_]*$", file.name)
                    self.assertNotIn(name, NOT_NAMES, file.name)
                    self.assertFalse(hasattr(builtins, name), f"{file.name}: {name}")

    def test_python_s_own_names(self):
        for file in files():
            tree = parsed(file)
            known = bound_in(tree) + BUILTINS
            for node in ast.walk(tree):
                if isinstance(node, ast.ImportFrom):
                    known.extend(name.name for name in node.names)
            for node in ast.walk(tree):
                if isinstance(node, ast.Name):
                    self.assertIn(node.id, known, f"{file.name}:{node.lineno}")

    def test_methods(self):
        own = [node.name for where, node in self.each_node() if isinstance(node, ast.FunctionDef)]
        for where, node in self.each_node():
            if isinstance(node, ast.Call) and isinstance(node.func, ast.Attribute):
                self.assertIn(node.func.attr, METHODS + own, where)

    def test_no_name_is_a_method_here_and_a_value_there(self):
        methods, values = {}, {}
        for where, node in self.each_node():
            if isinstance(node, ast.ClassDef):
                methods.update({part.name: where for part in node.body if isinstance(part, ast.FunctionDef)})
            if isinstance(node, ast.Attribute) and isinstance(node.ctx, ast.Store):
                values[node.attr] = where
        self.assertEqual(sorted(set(methods) & set(values)), [])
        for name in values:
            for kind in (str, int, list, dict, set, bytes):
                self.assertFalse(hasattr(kind, name), values[name])

    def test_powers_have_a_written_exponent(self):
        for where, node in self.each_node():
            if isinstance(node, (ast.BinOp, ast.AugAssign)) and isinstance(node.op, ast.Pow):
                exponent = node.right if isinstance(node, ast.BinOp) else node.value
                self.assertIn(getattr(exponent, "value", None), range(65), where)

    def test_what_is_walked_is_not_changed(self):
        changing = "append clear extend insert pop remove reverse setdefault update".split()
        for where, node in self.each_node():
            if isinstance(node, ast.For):
                walked = {part.id for part in ast.walk(node.iter) if isinstance(part, ast.Name)}
                for part in [inner for line in node.body for inner in ast.walk(line)]:
                    if isinstance(part, ast.Call) and isinstance(part.func, ast.Attribute):
                        if part.func.attr in changing and isinstance(part.func.value, ast.Name):
                            self.assertNotIn(part.func.value.id, walked, where)
                    if isinstance(part, ast.Subscript) and isinstance(part.ctx, ast.Store):
                        self.assertNotIn(getattr(part.value, "id", None), walked, where)

    def test_no_local_is_called_like_a_class_or_an_import(self):
        for file in files():
            tree = parsed(file)
            taken = [name.name for node in ast.walk(tree) if isinstance(node, ast.ImportFrom) for name in node.names]
            taken += [node.name for node in tree.body if isinstance(node, ast.ClassDef)]
            for node in ast.walk(tree):
                if isinstance(node, ast.arg):
                    self.assertNotIn(node.arg, taken, f"{file.name}:{node.lineno}")
                if isinstance(node, ast.Name) and isinstance(node.ctx, ast.Store):
                    self.assertNotIn(node.id, taken, f"{file.name}:{node.lineno}")

    def test_names_of_a_file_s_top_are_bound_once(self):
        for file in files():
            names = [getattr(node, "name", None) or node.targets[0].id for node in parsed(file).body
                     if isinstance(node, (ast.FunctionDef, ast.ClassDef, ast.Assign))]
            self.assertEqual(len(names), len(set(names)), file.name)

    def test_walked_on_the_spot(self):
        for file in files():
            spots = []
            tree = parsed(file)
            for node in ast.walk(tree):
                if isinstance(node, (ast.For, ast.comprehension)):
                    spots.append(node.iter)
                elif called(node) in WALKERS and node.args:
                    spots.append(node.args[0])
                if called(node) == "zip":
                    spots.extend(node.args)
            for node in ast.walk(tree):
                if called(node) in WALKED:
                    self.assertIn(node, spots, f"{file.name}:{node.lineno}")

    def test_sets_are_asked_on_the_spot(self):
        for file in files():
            tree = parsed(file)
            spots = []
            for node in ast.walk(tree):
                if called(node) in ("sorted", "len"):
                    spots.extend(ast.walk(node.args[0]))
                elif isinstance(node, ast.Compare):
                    spots.extend(node.comparators + [node.left])
            for node in ast.walk(tree):
                if called(node) == "set" or isinstance(node, ast.Set):
                    self.assertIn(node, spots, f"{file.name}:{node.lineno}")


if __name__ == "__main__":
    unittest.main()
