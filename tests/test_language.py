"""Some rules of LANGUAGE.md that the text of the package shows: L1, L2, L10, L14, L16."""

import ast
import pathlib
import unittest

FOLDER = pathlib.Path(__file__).resolve().parent.parent / "heapeffects"
FILES = sorted(FOLDER.glob("*.py"))


class Text(unittest.TestCase):
    def test_the_folder_holds_nothing_else(self):
        self.assertEqual(sorted(path for path in FOLDER.iterdir() if path.name != "__pycache__"), FILES)

    def test_sizes(self):
        for path in FILES:
            lines = path.read_text(encoding="utf-8").splitlines()
            self.assertLessEqual(len(lines), 399, path.name)
            self.assertLessEqual(max(len(line) for line in lines), 120, path.name)
            for node in ast.walk(ast.parse("\n".join(lines))):
                if isinstance(node, ast.FunctionDef):
                    self.assertLessEqual(node.end_lineno - node.lineno + 1, 40, node.name)

    def test_characters(self):
        for path in FILES:
            text = path.read_bytes()
            self.assertEqual([byte for byte in text if not 32 <= byte <= 126 and byte != 10], [], path.name)

    def test_imports(self):
        for path in FILES:
            for node in ast.walk(ast.parse(path.read_text(encoding="utf-8"))):
                self.assertNotIsInstance(node, ast.Import)
                if isinstance(node, ast.ImportFrom):
                    self.assertTrue(node.module.startswith("heapeffects."), path.name)
                    source = ast.parse((FOLDER / (node.module.split(".")[1] + ".py")).read_text(encoding="utf-8"))
                    self.assertLessEqual({alias.name for alias in node.names}, self.defined(source), path.name)

    def defined(self, source):
        names = {node.name for node in source.body if isinstance(node, (ast.FunctionDef, ast.ClassDef))}
        plain = [node for node in source.body if isinstance(node, ast.Assign)]
        return names | {target.id for node in plain for target in node.targets}


if __name__ == "__main__":
    unittest.main()
