"""Some rules of LANGUAGE.md that the text of the package shows: L1, L2, L8, L10, L12, L14, L16, L17."""

import ast
import builtins
import pathlib
import unittest

FOLDER = pathlib.Path(__file__).resolve().parent.parent / "heapeffects"
FILES = sorted(FOLDER.glob("*.py"))

# Builtins that L8 allows; others of L8 may be added when the package needs them.
BUILTINS = set("""
    len range enumerate zip min max sum abs sorted reversed int str bool list tuple dict set isinstance repr any all
    divmod super property staticmethod classmethod ValueError LookupError IndexError OverflowError RuntimeError
""".split())

# What L2 lets a file import from outside the package, and the package needs.
LIBRARY = {"heapq": {"heappop", "heappush"}, "math": {"comb"}}

BARRED = set("""
    register mro elements open input law version_info with_traceback add_note attrgetter breakpoint compile copyright
    credits delattr dir eval exec exit gc globals help id importlib license locals methodcaller os quit sys type vars
    _cold _tuplegetter _outside _record _written_out _member_names
""".split())


class Text(unittest.TestCase):
    def test_the_folder_holds_nothing_else(self):
        self.assertEqual(sorted(path for path in FOLDER.iterdir() if path.name != "__pycache__"), FILES)

    def test_sizes(self):
        for path in FILES:
            lines = path.read_text(encoding="utf-8").splitlines()
            self.assertLessEqual(len(lines), 399, path.name)
            self.assertLessEqual(max(len(line) for line in lines), 120, path.name)
            for node in ast.walk(ast.parse("\n".join(lines))):
                if isinstance(node, ast.FunctionDef):
                    self.assertLessEqual(node.end_lineno - node.lineno + 1, 40, node.name)

    def test_characters(self):
        for path in FILES:
            text = path.read_bytes()
            self.assertEqual([byte for byte in text if not 32 <= byte <= 126 and byte != 10], [], path.name)

    def test_imports(self):
        for path in FILES:
            for node in ast.walk(ast.parse(path.read_text(encoding="utf-8"))):
                self.assertNotIsInstance(node, ast.Import)
                if isinstance(node, ast.ImportFrom) and node.module in LIBRARY:
                    self.assertLessEqual({alias.name for alias in node.names}, LIBRARY[node.module], path.name)
                    self.assertEqual({alias.asname for alias in node.names}, {None}, path.name)
                elif isinstance(node, ast.ImportFrom):
                    self.assertTrue(node.module.startswith("heapeffects."), path.name)
                    source = ast.parse((FOLDER / (node.module.split(".")[1] + ".py")).read_text(encoding="utf-8"))
                    self.assertLessEqual({alias.name for alias in node.names}, self.defined(source), path.name)

    def test_no_two_files_import_from_each_other(self):
        sources = {}
        for path in FILES:
            tree = ast.parse(path.read_text(encoding="utf-8"))
            sources[path.stem] = {node.module.split(".")[1] for node in tree.body
                                  if isinstance(node, ast.ImportFrom) and node.module not in LIBRARY}
        while sources:
            free = [stem for stem in sources if not sources[stem] & set(sources)]
            self.assertNotEqual(free, [], sources)
            for stem in free:
                del sources[stem]

    def test_names_of_the_library_are_only_called(self):
        for path in FILES:
            tree = ast.parse(path.read_text(encoding="utf-8"))
            names = {name for names in LIBRARY.values() for name in names}
            called = [node.func for node in ast.walk(tree) if isinstance(node, ast.Call)]
            for node in ast.walk(tree):
                if isinstance(node, ast.Name) and node.id in names:
                    self.assertIn(node, called, path.name)

    def names(self, path):
        """All names that are bound or used in a file, those of attributes, parameters and keywords included."""
        for node in ast.walk(ast.parse(path.read_text(encoding="utf-8"))):
            for field in ("id", "attr", "arg", "name"):
                if isinstance(getattr(node, field, None), str):
                    yield getattr(node, field)

    def test_builtins(self):
        for path in FILES:
            used = {node.id for node in ast.walk(ast.parse(path.read_text(encoding="utf-8"))) if isinstance(node, ast.Name)}
            self.assertLessEqual({name for name in used if hasattr(builtins, name)}, BUILTINS, path.name)

    def test_names(self):
        allowed = {"__init__", "__eq__", "__repr__", "__class__", "__name__"}
        for path in FILES:
            for name in self.names(path):
                self.assertNotIn(name, BARRED, path.name)
                self.assertTrue(not name.startswith("__") or name in allowed, name)
                self.assertFalse(name.startswith(("_wall", "_pe_", "_dcw_", "_enum_", "_cm_", "_lay_", "_law_", "_sre")), name)

    def test_unused_imports(self):
        for path in FILES:
            tree = ast.parse(path.read_text(encoding="utf-8"))
            imported = {alias.name for node in tree.body if isinstance(node, ast.ImportFrom) for alias in node.names}
            self.assertLessEqual(imported, {node.id for node in ast.walk(tree) if isinstance(node, ast.Name)}, path.name)

    def defined(self, source):
        names = {node.name for node in source.body if isinstance(node, (ast.FunctionDef, ast.ClassDef))}
        plain = [node for node in source.body if isinstance(node, ast.Assign)]
        return names | {target.id for node in plain for target in node.targets}


if __name__ == "__main__":
    unittest.main()
