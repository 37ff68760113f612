"""The rows of `__exit__` are only such as LANGUAGE.md, rule L6 With, allows."""

import ast
import unittest
from pathlib import Path

PACKAGE = Path(__file__).resolve().parent.parent / "touchpasses"


def is_attribute(node):
    """An attribute of a name, or of such an attribute."""
    return isinstance(node, ast.Attribute) and (isinstance(node.value, ast.Name) or is_attribute(node.value))


def is_of_self(node):
    return isinstance(node, ast.Attribute) and isinstance(node.value, ast.Name) and node.value.id == "self"


def is_test(node):
    """`kind is None` or `kind is not None`."""
    return (isinstance(node, ast.Compare) and isinstance(node.left, ast.Name) and node.left.id == "kind"
            and isinstance(node.ops[0], (ast.Is, ast.IsNot)) and len(node.ops) == 1
            and isinstance(node.comparators[0], ast.Constant) and node.comparators[0].value is None)


class Rows:
    """Collects the rows of one `__exit__` that are of none of the kinds that the package needs."""

    def __init__(self, function):
        self.wrong = []
        self.locals = []
        self.look(function.body)

    def look(self, body):
        for row in body:
            if isinstance(row, ast.If):
                if not is_test(row.test):
                    self.wrong.append(row.lineno)
                self.look(row.body)
                self.look(row.orelse)
            elif not self.is_right(row):
                self.wrong.append(row.lineno)

    def is_right(self, row):
        if isinstance(row, (ast.Pass, ast.Return)):
            value = getattr(row, "value", None)
            return value is None or isinstance(value, ast.Constant) and (value.value is None or value.value is False)
        if not isinstance(row, ast.Assign) or len(row.targets) != 1:
            return False
        target = row.targets[0]
        if isinstance(target, ast.Name):
            # `net = self.net`, once.
            self.locals.append(target.id)
            return len(self.locals) == 1 and is_of_self(row.value)
        if isinstance(row.value, ast.Name):
            return is_attribute(target) and row.value.id in self.locals
        return is_attribute(target) and is_attribute(row.value)


def exits(text):
    return [node for node in ast.walk(ast.parse(text))
            if isinstance(node, ast.FunctionDef) and node.name == "__exit__"]


class RowsOfExit(unittest.TestCase):

    def test_the_package(self):
        many = 0
        for path in sorted(PACKAGE.glob("*.py")):
            for function in exits(path.read_text(encoding="utf-8")):
                many += 1
                self.assertEqual(Rows(function).wrong, [], path.name)
        self.assertGreater(many, 0)

    def wrong_rows(self, *rows):
        text = "\n".join(("def __exit__(self, kind, value, trace):",) + tuple("    " + row for row in rows))
        return Rows(exits(text)[0]).wrong

    def test_rows_that_are_allowed(self):
        self.assertEqual(self.wrong_rows("net = self.net", "if kind is not None:", "    net.now = self.start",
                                         "self.start = self.start.around", "self.net = net", "return False"), [])

    def test_rows_that_are_not(self):
        for row in ("self.leave()", "start = net.start", "self.start = self.starts.pop()", "if value: pass",
                    "self.start = self.starts[0]", "return True", "return 0", "del self.start", "self.start = value",
                    "if kind == None: pass", "for k in self.starts: pass", "raise kind"):
            with self.subTest(row):
                self.assertEqual(self.wrong_rows(row), [2])
        self.assertEqual(self.wrong_rows("net = self.net", "start = self.start"), [3])


if __name__ == "__main__":
    unittest.main()
