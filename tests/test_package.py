"""The shape of the package: where the names of the interface are defined, and the sizes that code may have."""

import ast
import pathlib
import unittest

PACKAGE = pathlib.Path(__file__).resolve().parent.parent / "whoselines"

INTERFACE = {
    "machines": {"Machine": ("size", "arrows", "ends", "signs", "step", "writes", "__eq__")},
    "rows": {"rows_count": (), "row_at": (), "shortest_row": (), "row_apart": ()},
    "bands": {"Band": ("names", "barred", "shown", "machine", "signs", "showing", "__eq__")},
    "logs": dict.fromkeys(
        ("is_log", "count", "giving_at", "number_of", "owners", "sure_lines", "web", "least_told"), ()),
    "doubts": dict.fromkeys(
        ("first_doubt", "is_sure", "doubtful_signs", "open_for", "open_ring", "least_lots", "told_apart"), ()),
    "pieces": dict.fromkeys(("is_piece", "piece_owners", "least_mend", "is_mend"), ()),
    "crews": dict.fromkeys(("fewest_writers", "crew", "is_crew", "crews_count"), ()),
    "papers": dict.fromkeys(("paper", "open_paper", "shows_sure", "shows_open"), ()),
    "live": {"Live": (
        "add", "add_all", "tell", "undo", "owners", "count", "is_log", "sure", "next_signs", "__len__", "band", "entries",
    )},
    "texts": dict.fromkeys(
        ("machine_text", "read_machine", "band_text", "read_band", "log_text", "read_log"), ()),
    "desks": {"Desk": ("order",)},
}


def sources():
    return {path.name: path.read_text(encoding="utf-8") for path in sorted(PACKAGE.glob("*.py"))}


class Shape(unittest.TestCase):
    def test_interface_is_defined_where_it_is_listed(self):
        for file, names in INTERFACE.items():
            tree = ast.parse(sources()[file + ".py"])
            defined = {node.name: node for node in tree.body if isinstance(node, (ast.ClassDef, ast.FunctionDef))}
            for name, methods in names.items():
                self.assertIn(name, defined)
                own = [node.name for node in defined[name].body if isinstance(node, ast.FunctionDef)]
                for method in methods:
                    self.assertIn(method, own)

    def test_sizes(self):
        for name, text in sources().items():
            rows = text.splitlines()
            self.assertLessEqual(len(rows), 399, name)
            self.assertLessEqual(max([len(row) for row in rows], default=0), 120, name)
            for node in ast.walk(ast.parse(text)):
                if isinstance(node, ast.FunctionDef):
                    self.assertLessEqual(node.end_lineno - node.lineno + 1, 40, f"{name} {node.name}")

    def test_characters(self):
        for name, text in sources().items():
            self.assertTrue(all(char == "\n" or " " <= char <= "~" for char in text), name)

    def test_imports(self):
        for name, text in sources().items():
            for node in ast.walk(ast.parse(text)):
                self.assertNotIsInstance(node, ast.Import, name)
                if isinstance(node, ast.ImportFrom):
                    self.assertEqual(node.level, 0)
                    self.assertTrue(node.module.startswith("whoselines."), f"{name} {node.module}")


if __name__ == "__main__":
    unittest.main()
