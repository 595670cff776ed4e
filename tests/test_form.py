"""The package keeps to the rules of ../shared/LANGUAGE.md that can be looked at here."""

import ast
import builtins
import pathlib
import re
import unittest

PACKAGE = pathlib.Path(__file__).resolve().parent.parent / "papertongue"
FILES = sorted(PACKAGE.glob("*.py"))
BUILTINS = set(
    "len range enumerate zip min max sum abs sorted reversed int str bool bytes list tuple dict set frozenset "
    "isinstance ord repr any all divmod type super iter next ValueError LookupError ArithmeticError KeyError".split())
BARRED = set("register mro elements open input law version_info with_traceback add_note".split())
WORDS_BARRED = "typing enum Enum Generic Protocol ABC namedtuple dataclass overload contextmanager".split()
METHODS = set(
    "append clear copy count endswith extend find get index insert isalnum isalpha isdigit islower isspace isupper "
    "items join keys ljust lower lstrip partition pop remove replace reverse rfind rjust rpartition rsplit rstrip "
    "setdefault split splitlines startswith strip update upper values zfill bit_length add discard".split())
DOUBLE = set("__init__ __eq__ __repr__ __str__ __len__".split())
# L26: what values of Python's own have as a method or an attribute, but for those that an attribute may be called.
OF_VALUES = {name for kind in (str, int, bytes, list, tuple, dict, set) for name in dir(kind)} | {"args"}
MAY_BE_ATTRIBUTES = set("count index title find get join lower upper split strip copy add".split())
MODULE_LEVEL = (ast.Expr, ast.ImportFrom, ast.FunctionDef, ast.ClassDef, ast.Assign)
NOT_USED = (
    ast.GeneratorExp, ast.Global, ast.AsyncFunctionDef, ast.Await, ast.AsyncFor, ast.AsyncWith, ast.Div, ast.Import)


def trees():
    """(name of the file, its text, its tree) of all files of the package."""
    for path in FILES:
        text = path.read_text(encoding="utf-8")
        yield path.name, text, ast.parse(text)


class Files(unittest.TestCase):
    def test_the_folder_holds_python_files_alone(self):
        self.assertIn(PACKAGE / "__init__.py", FILES)
        for path in PACKAGE.iterdir():
            if path.name != "__pycache__":
                self.assertEqual(path.suffix, ".py")
                self.assertEqual(path.name, path.name.lower())

    def test_size_and_signs(self):
        for name, text, _ in trees():
            lines = text.split("\n")
            self.assertLessEqual(len(lines), 399, name)
            for line in lines:
                self.assertLessEqual(len(line), 120, (name, line))
                self.assertEqual(line, line.rstrip(), name)
                self.assertTrue(all(" " <= sign <= "~" for sign in line), (name, line))

    def test_words_that_do_not_occur(self):
        for name, text, _ in trees():
            found = re.findall(r"[A-Za-z0-9_]+", text)
            for word in WORDS_BARRED:
                self.assertNotIn(word, found, name)


class Forms(unittest.TestCase):
    def test_module_level(self):
        for name, _, tree in trees():
            bound, functions = [], []
            for node in tree.body:
                self.assertIsInstance(node, MODULE_LEVEL, name)
                if isinstance(node, ast.Expr):
                    self.assertIsInstance(node.value, ast.Constant, name)
                if isinstance(node, ast.Assign):
                    self.look_at_value(node.value, functions)
                    self.assertEqual(len(node.targets), 1, name)
                    bound.append(node.targets[0].id)
                if isinstance(node, ast.ImportFrom):
                    bound += [alias.asname or alias.name for alias in node.names]
                if isinstance(node, ast.FunctionDef):
                    functions.append(node.name)
                if isinstance(node, (ast.FunctionDef, ast.ClassDef)):
                    bound.append(node.name)
            self.assertEqual(len(bound), len(set(bound)), name)

    def look_at_value(self, value, functions):
        """A plain value; or a dict of names of functions that are defined above it."""
        if isinstance(value, ast.Dict) and all(isinstance(one, ast.Name) for one in value.values):
            for one in value.values:
                self.assertIn(one.id, functions)
            value = ast.List(value.keys, ast.Load())
        ast.literal_eval(value)

    def test_imports(self):
        for name, _, tree in trees():
            for node in ast.walk(tree):
                if isinstance(node, ast.ImportFrom):
                    self.assertTrue(node.module.startswith("papertongue."), (name, node.module))
                    self.assertEqual(node.level, 0, name)
                    for alias in node.names:
                        path = PACKAGE / (node.module.split(".")[1] + ".py")
                        self.assertIn(alias.name, list(names_defined(path, imports=False)), (name, alias.name))

    def test_functions(self):
        for name, _, tree in trees():
            for node in ast.walk(tree):
                self.assertNotIsInstance(node, NOT_USED, name)
                if isinstance(node, (ast.FunctionDef, ast.ClassDef)):
                    self.assertEqual(node.decorator_list, [], (name, node.name))
                if isinstance(node, ast.FunctionDef):
                    self.assertLessEqual(node.end_lineno - node.lineno + 1, 40, (name, node.name))
                    if node.name.startswith("__"):
                        self.assertIn(node.name, DOUBLE, name)

    def test_names(self):
        for name, _, tree in trees():
            for node in ast.walk(tree):
                for word in names_of(node):
                    self.assertNotIn(word, BARRED, name)
                    self.assertFalse(word.startswith("__") and word not in DOUBLE, (name, word))

    def test_values(self):
        for name, _, tree in trees():
            for node in ast.walk(tree):
                if isinstance(node, ast.Constant):
                    self.assertNotIsInstance(node.value, (float, complex), name)
                    if isinstance(node.value, str):
                        self.assertNotIn("%", node.value, name)
                if isinstance(node, ast.Compare):
                    for sign, right in zip(node.ops, node.comparators):
                        if isinstance(sign, (ast.Is, ast.IsNot)):
                            self.assertIn(getattr(right, "value", 0), (None, True, False), name)

    def test_calls(self):
        methods = {node.name for _, _, tree in trees() for node in ast.walk(tree) if isinstance(node, ast.FunctionDef)}
        for name, _, tree in trees():
            known = set(names_defined(PACKAGE / name)) | BUILTINS
            # What is taken from a table is given a name first, and called by it.
            for node in ast.walk(tree):
                if isinstance(node, ast.Assign) and isinstance(node.value, ast.Subscript):
                    if isinstance(node.value.value, ast.Name) and node.value.value.id.isupper():
                        known.add(node.targets[0].id)
            for node in ast.walk(tree):
                if isinstance(node, ast.Call) and isinstance(node.func, ast.Name):
                    self.assertIn(node.func.id, known, name)
                if isinstance(node, ast.Call) and isinstance(node.func, ast.Attribute):
                    self.assertIn(node.func.attr, methods | METHODS, name)


class Names(unittest.TestCase):
    def test_no_attribute_has_a_name_of_values_of_pythons_own(self):
        barred = OF_VALUES - MAY_BE_ATTRIBUTES
        self.assertLessEqual(set("items keys values pop append sort args format".split()), barred)
        seen = 0
        for name, _, tree in trees():
            for node in ast.walk(tree):
                if isinstance(node, ast.Attribute) and isinstance(node.ctx, ast.Store):
                    self.assertNotIn(node.attr, barred, (name, node.lineno))
                    seen += 1
        self.assertGreater(seen, 50)

    def test_no_method_has_another_name_of_values_of_pythons_own(self):
        barred = OF_VALUES - METHODS - DOUBLE
        for name, _, tree in trees():
            for node in ast.walk(tree):
                if isinstance(node, ast.ClassDef):
                    for one in node.body:
                        if isinstance(one, ast.FunctionDef):
                            self.assertNotIn(one.name, barred, (name, one.lineno))

    def test_no_name_is_a_method_and_an_attribute(self):
        methods, attributes = set(), set()
        for _, _, tree in trees():
            for node in ast.walk(tree):
                if isinstance(node, ast.ClassDef):
                    methods |= {one.name for one in node.body if isinstance(one, ast.FunctionDef)}
                if isinstance(node, ast.Attribute) and isinstance(node.ctx, ast.Store):
                    attributes.add(node.attr)
        self.assertEqual(methods & attributes, set())

    def test_attributes_that_are_read_are_assigned(self):
        known = set(METHODS)
        for _, _, tree in trees():
            for node in ast.walk(tree):
                if isinstance(node, ast.FunctionDef):
                    known.add(node.name)
                if isinstance(node, ast.Attribute) and isinstance(node.ctx, ast.Store):
                    known.add(node.attr)
        for name, _, tree in trees():
            for node in ast.walk(tree):
                if isinstance(node, ast.Attribute):
                    self.assertIn(node.attr, known, name)

    def test_locals_have_no_names_of_imports_classes_and_builtins(self):
        for name, _, tree in trees():
            barred = set(dir(builtins))
            for node in tree.body:
                if isinstance(node, ast.ImportFrom):
                    barred |= {alias.name for alias in node.names}
                if isinstance(node, ast.ClassDef):
                    barred.add(node.name)
            for node in ast.walk(tree):
                if isinstance(node, ast.Name) and isinstance(node.ctx, ast.Store):
                    self.assertNotIn(node.id, barred, name)
                if isinstance(node, ast.arg):
                    self.assertNotIn(node.arg, barred, name)
                if isinstance(node, ast.FunctionDef) and node in tree.body:
                    self.assertNotIn(node.name, barred, name)

    def test_no_two_files_import_from_each_other(self):
        imported = {}
        for name, _, tree in trees():
            modules = [node.module for node in tree.body if isinstance(node, ast.ImportFrom)]
            imported[name] = {module.split(".")[1] + ".py" for module in modules}
        while imported:
            free = [name for name in imported if not imported[name] & set(imported)]
            self.assertTrue(free, imported)
            for name in free:
                del imported[name]

    def test_all_that_is_imported_is_used(self):
        for name, _, tree in trees():
            used = {node.id for node in ast.walk(tree) if isinstance(node, ast.Name)}
            for node in tree.body:
                if isinstance(node, ast.ImportFrom):
                    for alias in node.names:
                        self.assertIn(alias.name, used, name)


class Interface(unittest.TestCase):
    # Each module with its functions and their arguments, and its classes with their methods.
    FUNCTIONS = {
        "tokens": {
            "is_word": ["thing"], "is_token": ["thing"], "is_tokens": ["thing", "plain"], "show_tokens": ["tokens"],
            "read_tokens": ["text"]},
        "documents": {"document_of": ["text"]},
        "numbers": {
            "numbers": ["document"], "counted": ["document", "row", "token"], "number_of": ["document", "name"]},
        "printing": {
            "printed": ["document", "size"], "on_pages": ["document", "width", "height"],
            "on_screen": ["document", "width"], "as_plain": ["document"]},
        "places": {"shown": ["printing", "row", "token"], "source": ["printing", "page", "line", "column"]},
        "reading": {"read_text": ["text"]},
        "reprints": {"reprinted": ["printing", "document"]},
        "apart": {"apart": ["one", "other"]},
        "drafttexts": {"read_draft": ["text"]},
        "checker": {"holds": ["claim", "paper"]},
        "papers": {
            "paper_number": ["document", "row", "token"], "paper_mark": ["document", "name"],
            "paper_printed": ["document", "size"], "paper_ends": ["document", "size", "page"],
            "paper_stands": ["document", "size", "name"],
            "paper_sign": ["document", "size", "page", "line", "column"], "paper_apart": ["one", "other"],
            "paper_clash": ["draft", "one", "other"], "paper_taken": ["draft"]},
    }
    CLASSES = {
        ("texts", "Text"): {"__init__": ["self", "rows"], "tree": ["self"]},
        ("documents", "Document"): {"__init__": ["self", "texts"], "shown_in": ["self", "kind"]},
        ("printing", "Printing"): {"stands": ["self", "name"]},
        ("drafts", "Draft"): {
            "__init__": ["self", "text", "changes"], "take": ["self", "number"], "leave": ["self", "number"],
            "open_again": ["self", "number"], "take_all": ["self", "numbers"], "state": ["self"], "text": ["self"],
            "elder": ["self"], "newer": ["self"], "clashes": ["self"]},
    }

    def arguments(self, node):
        return [one.arg for one in node.args.posonlyargs + node.args.args + node.args.kwonlyargs]

    def functions(self, body):
        return {node.name: self.arguments(node) for node in body if isinstance(node, ast.FunctionDef)}

    def body_of(self, module):
        return ast.parse((PACKAGE / (module + ".py")).read_text(encoding="utf-8")).body

    def test_functions_are_defined_where_it_lists_them(self):
        for module, told in self.FUNCTIONS.items():
            found = self.functions(self.body_of(module))
            for name, arguments in told.items():
                self.assertEqual(found.get(name), arguments, (module, name))

    def test_methods_are_defined_in_the_class_itself(self):
        for (module, name), told in self.CLASSES.items():
            (node,) = [node for node in self.body_of(module) if isinstance(node, ast.ClassDef) and node.name == name]
            found = self.functions(node.body)
            for method, arguments in told.items():
                self.assertEqual(found.get(method), arguments, (name, method))
            for method in ("__eq__", "__len__", "__str__", "__repr__"):
                self.assertIn(method, found, name)

    def test_the_desk(self):
        (node,) = [node for node in self.body_of("desk") if isinstance(node, ast.ClassDef)]
        self.assertEqual((node.name, self.functions(node.body)), ("Desk", {"__init__": ["self"], "say": ["self", "line"]}))


def names_defined(path, imports=True):
    """The names that a file binds at module level, those of imports too or not."""
    for node in ast.parse(path.read_text(encoding="utf-8")).body:
        if isinstance(node, (ast.FunctionDef, ast.ClassDef)):
            yield node.name
        if isinstance(node, ast.Assign):
            yield node.targets[0].id
        if isinstance(node, ast.ImportFrom) and imports:
            yield from [alias.name for alias in node.names]


def names_of(node):
    """The names that stand in a node itself."""
    for field in ("id", "attr", "arg", "name"):
        word = getattr(node, field, None)
        if isinstance(word, str):
            yield word


if __name__ == "__main__":
    unittest.main()
