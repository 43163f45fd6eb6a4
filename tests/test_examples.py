"""All examples of the document, as it prints them."""
import os
import unittest

import fivealike.errors

MODULES = ("web.webs", "web.maps", "width.bags", "width.recipes", "colour.rounds", "colour.alike", "game.tokens")
PLACE = os.path.join(os.path.dirname(os.path.abspath(__file__)), "examples.txt")


def names_of_package():
    """All names of the modules, as the examples use them."""
    names = dict(vars(fivealike.errors))
    for word in MODULES:
        names.update(vars(__import__("fivealike." + word, fromlist=["name"])))
    return names


def examples():
    """Triples of the section, of what is typed in, and of the list of the lines that it prints."""
    found = []
    section = ""
    with open(PLACE, encoding="utf-8") as file:
        for line in file.read().split("\n"):
            if line.startswith("# "):
                section = line[2:]
            elif line.startswith(">>> "):
                found.append((section, line[4:], []))
            elif line != "":
                found[-1][2].append(line)
    return found


class Examples(unittest.TestCase):
    def check_error(self, typed, names, wanted):
        with self.assertRaises(fivealike.errors.FiveError) as caught:
            eval(typed, names)
        if "(" in wanted:
            asked = eval(wanted, names)
            self.assertIs(type(caught.exception), type(asked))
            self.assertEqual(vars(caught.exception), vars(asked))
        else:
            self.assertEqual(type(caught.exception).__name__, wanted)

    def test_all(self):
        names = names_of_package()
        checked = 0
        for section, typed, printed in examples():
            with self.subTest(section=section, typed=typed):
                if printed == []:
                    exec(typed, names)
                elif printed[0].startswith("raises "):
                    self.check_error(typed, names, printed[0][len("raises "):])
                    checked += 1
                else:
                    self.assertEqual(repr(eval(typed, names)), printed[0])
                    checked += 1
        self.assertEqual(checked, 29)

    def test_they_are_those_of_the_document(self):
        place = os.path.join(os.path.dirname(PLACE), "..", "..", "shared", "DOC.md")
        if not os.path.exists(place):
            self.skipTest("the document is not beside the project")
        with open(place, encoding="utf-8") as file:
            lines = file.read().split("\n")
        for _, typed, printed in examples():
            self.assertIn(">>> " + typed, lines)
            for line in printed:
                self.assertIn(line, lines)


if __name__ == "__main__":
    unittest.main()
