"""The rules of the language that can be read off the files of the package (../shared/LANGUAGE.md), by their numbers."""

import ast
import builtins
import io
import tokenize
import unittest
from pathlib import Path

FOLDER = Path(__file__).resolve().parent.parent / "steermeans"
LIBRARY = {"math": {"gcd", "lcm", "isqrt", "comb", "perm", "factorial"},
           "itertools": {"combinations", "permutations", "product"}}
BUILTINS = set("len range enumerate zip min max sum abs sorted reversed int str bool list tuple dict set isinstance ord "
               "repr any all divmod type ValueError KeyError IndexError".split())
METHODS = set("append clear copy count endswith extend find get index insert items join keys pop remove replace reverse "
              "setdefault sort split startswith strip update values bit_length add discard __init__".split())
STATEMENTS = (ast.Assign, ast.AugAssign, ast.If, ast.While, ast.For, ast.Return, ast.Break, ast.Continue, ast.Pass,
              ast.Raise, ast.Assert, ast.Expr, ast.FunctionDef, ast.ClassDef, ast.ImportFrom, ast.Try)
BARRED = set("type typing typing_extensions enum Enum IntEnum StrEnum Flag IntFlag Generic Protocol ABC ABCMeta "
             "namedtuple NamedTuple TypedDict TYPE_CHECKING abstractmethod mro elements open input law version_info "
             "with_traceback add_note register attrgetter breakpoint builtins compile copyright credits delattr dir eval "
             "exec exit gc getattr globals hasattr help id importlib license locals methodcaller os quit setattr sys "
             "vars global async await".split())


class LanguageTest(unittest.TestCase):
    def setUp(self):
        self.texts = {path.name: path.read_text(encoding="utf-8") for path in sorted(FOLDER.glob("*.py"))}
        self.trees = {name: ast.parse(text) for name, text in self.texts.items()}

    def nodes(self, kinds):
        """All nodes of some kinds, with where they stand."""
        for name, tree in self.trees.items():
            for node in ast.walk(tree):
                if isinstance(node, kinds):
                    yield f"{name}:{getattr(node, 'lineno', 0)}", node

    def test_l1_l14_files(self):
        self.assertIn("__init__.py", self.texts)
        for path in FOLDER.iterdir():
            if path.name != "__pycache__":
                self.assertRegex(path.name, r"^(__init__|[a-z][a-z0-9_]*)\.py$")

    def test_l10_l14_sizes_and_characters(self):
        for name, text in self.texts.items():
            lines = text.split("\n")
            self.assertLessEqual(len(lines), 400, name)
            for at, line in enumerate(lines, 1):
                self.assertLessEqual(len(line), 120, f"{name}:{at}")
                self.assertRegex(line, r"^[ -~]*$", f"{name}:{at}")
        for where, node in self.nodes(ast.FunctionDef):
            self.assertLessEqual(node.end_lineno - node.lineno + 1, 40, where)

    def test_l2_l16_imports(self):
        self.assertFalse([where for where, _ in self.nodes(ast.Import)])
        for where, node in self.nodes(ast.ImportFrom):
            self.assertEqual(node.level, 0, where)
            for alias in node.names:
                self.assertIsNone(alias.asname, where)
                if node.module in LIBRARY:
                    self.assertIn(alias.name, LIBRARY[node.module], where)
                else:
                    folder, file = node.module.split(".")
                    self.assertEqual(folder, "steermeans", where)
                    told = [top.name for top in self.trees[f"{file}.py"].body
                            if isinstance(top, (ast.FunctionDef, ast.ClassDef))]
                    self.assertIn(alias.name, told, where)

    def test_l3_l15_module_level(self):
        for name, tree in self.trees.items():
            self.assertIsNotNone(ast.get_docstring(tree), name)
            bound = []
            for node in tree.body[1:]:
                if isinstance(node, ast.Assign):
                    self.check_plain_dict(node.value, bound, f"{name}:{node.lineno}")
                    bound += [target.id for target in node.targets]
                    self.assertEqual(len(node.targets), 1, f"{name}:{node.lineno}")
                    continue
                self.assertIsInstance(node, (ast.ImportFrom, ast.FunctionDef, ast.ClassDef), f"{name}:{node.lineno}")
                bound += [alias.name for alias in node.names] if isinstance(node, ast.ImportFrom) else [node.name]
            self.assertEqual(len(bound), len(set(bound)), name)

    def check_plain_dict(self, value, bound, where):
        """A dict of texts, with numbers and functions that stand above it."""
        self.assertIsInstance(value, ast.Dict, where)
        self.assertEqual({type(key.value) for key in value.keys}, {str}, where)
        for told in value.values:
            if isinstance(told, ast.Name):
                self.assertIn(told.id, bound, where)
            else:
                self.assertIs(type(told.value), int, where)

    def test_l15_dicts_at_module_level_are_only_looked_at(self):
        for name, tree in self.trees.items():
            dicts = {node.targets[0].id for node in tree.body if isinstance(node, ast.Assign)}
            looked = [node.value for node in ast.walk(tree)
                      if isinstance(node, ast.Subscript) and isinstance(node.ctx, ast.Load)]
            looked += [told for node in ast.walk(tree) if isinstance(node, ast.Compare) for told in node.comparators
                       if isinstance(node.ops[0], (ast.In, ast.NotIn))]
            for node in ast.walk(tree):
                if isinstance(node, ast.Name) and node.id in dicts and isinstance(node.ctx, ast.Load):
                    self.assertIn(node, looked, f"{name}:{node.lineno}")

    def test_l6_l19_only_own_errors_are_caught(self):
        own = {node.name for node in self.trees["errors.py"].body if isinstance(node, ast.ClassDef)}
        for where, node in self.nodes(ast.Try):
            self.assertEqual((node.finalbody, node.orelse), ([], []), where)
            for handler in node.handlers:
                self.assertIsInstance(handler.type, ast.Name, where)
                self.assertIn(handler.type.id, own, where)
                self.assertIsNone(handler.name, where)

    def test_l4_l5_l6_l7_statements_and_expressions(self):
        for where, node in self.nodes(ast.stmt):
            self.assertIsInstance(node, STATEMENTS, where)
        for where, node in self.nodes((ast.FunctionDef, ast.ClassDef)):
            self.assertEqual(node.decorator_list, [], where)
            self.assertIsNotNone(ast.get_docstring(node) or node.name == "__init__", where)
        for where, node in self.nodes(ast.Constant):
            self.assertNotIsInstance(node.value, (float, complex), where)
        self.assertFalse([where for where, _ in self.nodes((ast.Div, ast.Pow, ast.Yield, ast.Lambda, ast.Starred))])
        self.assertFalse([where for where, node in self.nodes(ast.Constant)
                          if isinstance(node.value, str) and "%" in node.value])

    def test_l8_builtins_and_l25_methods(self):
        for where, node in self.nodes(ast.Name):
            if hasattr(builtins, node.id):
                self.assertIn(node.id, BUILTINS, where)
                self.assertIsInstance(node.ctx, ast.Load, where)
        for where, node in self.nodes(ast.Call):
            if isinstance(node.func, ast.Attribute):
                self.assertIn(node.func.attr, METHODS, where)
            elif isinstance(node.func, ast.Name) and node.func.id in BUILTINS:
                self.assertLessEqual({word.arg for word in node.keywords}, {"key", "reverse", "default", "start"}, where)

    def test_l2_l23_l24_iterated_at_once(self):
        lazy = {"zip", "enumerate", "reversed", "range", "combinations", "permutations", "product"}
        takers = {"list", "tuple", "dict", "sorted", "sum", "any", "all", "min", "max", "enumerate", "zip", "combinations"}
        for name, tree in self.trees.items():
            heads = {id(node.iter) for node in ast.walk(tree) if isinstance(node, (ast.For, ast.comprehension))}
            taken, sorted_at = set(), set()
            for node in ast.walk(tree):
                if isinstance(node, ast.Call) and isinstance(node.func, ast.Name) and node.args:
                    taken |= {id(node.args[0])} if node.func.id in takers else set()
                    sorted_at |= {id(node.args[0])} if node.func.id in ("sorted", "len") else set()
            for node in ast.walk(tree):
                if isinstance(node, ast.Call) and isinstance(node.func, ast.Name):
                    if node.func.id in lazy:
                        self.assertIn(id(node), heads | taken, f"{name}:{node.lineno}")
                    if node.func.id == "set":
                        self.assertIn(id(node), sorted_at, f"{name}:{node.lineno}")
        self.assertFalse([where for where, _ in self.nodes((ast.GeneratorExp, ast.Set, ast.SetComp, ast.NamedExpr))])

    def test_l12_l15_names(self):
        for name, tree in self.trees.items():
            taken = {node.name for node in tree.body if isinstance(node, ast.ClassDef)}
            taken |= {alias.name for node in tree.body if isinstance(node, ast.ImportFrom) for alias in node.names}
            for node in ast.walk(tree):
                bound = node.arg if isinstance(node, ast.arg) else None
                if isinstance(node, ast.Name) and isinstance(node.ctx, ast.Store):
                    bound = node.id
                if isinstance(node, ast.Name) and isinstance(node.ctx, ast.Load):
                    self.assertNotEqual(node.id, "_", f"{name}:{node.lineno}")
                if bound is not None:
                    self.assertRegex(bound, r"^(_|_?[a-zA-Z][a-zA-Z0-9_]*)$")
                    self.assertNotIn(bound, taken, f"{name}:{node.lineno}")
                    self.assertFalse(hasattr(builtins, bound) and bound != "_", f"{name}:{node.lineno} {bound}")

    def test_l17_words(self):
        for name, text in self.texts.items():
            tokens = list(tokenize.generate_tokens(io.StringIO(text).readline))
            for token, after in zip(tokens, tokens[1:]):
                if token.type == tokenize.NAME and token.string in BARRED:
                    self.assertEqual((token.string, after.string), ("type", "("), f"{name}:{token.start[0]}")

    def test_l8_a_kind_is_only_compared_with_one(self):
        compared = [node.left for _, node in self.nodes(ast.Compare) if isinstance(node.ops[0], (ast.Is, ast.IsNot))]
        for where, node in self.nodes(ast.Call):
            if isinstance(node.func, ast.Name) and node.func.id == "type":
                self.assertIn(node, compared, where)


if __name__ == "__main__":
    unittest.main()
