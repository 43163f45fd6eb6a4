"""What stands behind a star in the files of the package: rule L7 of the language."""
import ast
import os
import unittest

import fivealike

PLACE = os.path.dirname(os.path.abspath(fivealike.__file__))


def files():
    """All files of the package, read."""
    for folder, _, names in sorted(os.walk(PLACE)):
        for name in sorted(names):
            if name.endswith(".py"):
                with open(os.path.join(folder, name), encoding="utf-8") as file:
                    yield os.path.relpath(os.path.join(folder, name), PLACE), file.read()


def is_plain(node):
    """Whether this is a name, an attribute off a name, a literal, or a list, a tuple or a dict of these."""
    if isinstance(node, ast.Attribute):
        return isinstance(node.value, ast.Name)
    if isinstance(node, (ast.List, ast.Tuple)):
        return all(is_plain(member) for member in node.elts)
    if isinstance(node, ast.Dict):
        return all(is_plain(member) for member in node.keys + node.values)
    return isinstance(node, (ast.Name, ast.Constant))


def wrong_stars(text):
    """The lines of the calls in which something else stands behind a star, or beside two."""
    found = []
    for node in ast.walk(ast.parse(text)):
        if isinstance(node, ast.Call):
            behind = [value.value for value in node.args if isinstance(value, ast.Starred)]
            double = [word.value for word in node.keywords if word.arg is None]
            if double != []:
                behind += node.args
            if not all(is_plain(value) for value in behind) or not all(isinstance(value, (ast.Name, ast.Attribute)) for value in double):
                found.append(node.lineno)
    return found


class Stars(unittest.TestCase):
    def test_what_is_wrong(self):
        for text in ("zip(*rows(1))", "zip(*box.rows())", "zip(at, *[row for row in rows])", "max(*rows[0])", "told(**made())", "told(one(), **more)"):
            self.assertEqual(wrong_stars("x = 1\n" + text), [2])
        for text in ("zip(*rows)", "zip(*box.rows)", "zip(at(), *rows)", "max(*(1, low))", "told(one, **more)", "first, *rest = rows(1)", "f(g(x), y)"):
            self.assertEqual(wrong_stars(text), [])

    def test_package(self):
        seen = 0
        for name, text in files():
            with self.subTest(name=name):
                self.assertEqual(wrong_stars(text), [])
            seen += text.count("zip(*")
        self.assertGreater(seen, 0)


if __name__ == "__main__":
    unittest.main()
