"""All examples of the document, as it prints them."""
import os
import unittest

import fivealike.errors
from fivealike.twist.twisted import twisted

# For each section the modules under which the document lists what the section's examples call.
MODULES = {
    "Examples": "web.webs", "Stage 1": "web.webs", "Stage 2": "web.maps", "Stage 3": "width.bags",
    "Stage 4": "width.recipes", "Stage 5": "colour.rounds", "Stage 6": "colour.alike", "Stage 7": "game.tokens",
    "Stage 8": "say.sentences", "Stage 9": "say.parting", "Stage 10": "pattern.closure", "Stage 11": "program.point",
    "Stage 12": "program.bars", "Stage 13": "depth.forests", "Stage 14": "side.keepers", "Stage 15": "line.lines",
    "Stage 16": "carry.carried", "Stage 17": "twist.twisted", "Stage 18": "same.search", "Stage 19": "same.counts",
    "Stage 20": "colour.codes", "Stage 21": "judge.judge judge.answers", "Stage 22": "use.texts use.bench",
}
PLACE = os.path.join(os.path.dirname(os.path.abspath(__file__)), "examples.txt")


def names_of_module(word):
    """All names of the module, as the examples use them."""
    return vars(__import__("fivealike." + word, fromlist=["name"]))


def examples():
    """Triples of the section, of what is typed in, and of the list of the lines that it prints."""
    found = []
    section = ""
    with open(PLACE, encoding="utf-8") as file:
        for line in file.read().split("\n"):
            if line.startswith("# "):
                section = line[2:]
            elif line.startswith(">>> "):
                found.append((section, line[4:], []))
            elif line != "":
                found[-1][2].append(line)
    return found


class Examples(unittest.TestCase):
    def check_error(self, typed, names, wanted):
        with self.assertRaises(fivealike.errors.FiveError) as caught:
            eval(typed, names)
        if "(" in wanted:
            asked = eval(wanted, names)
            self.assertIs(type(caught.exception), type(asked))
            self.assertEqual(vars(caught.exception), vars(asked))
        else:
            self.assertEqual(type(caught.exception).__name__, wanted)

    def test_all(self):
        # Stage 15 has twisted webs ahead of the stage that tells of them.
        names = {**vars(fivealike.errors), "twisted": twisted}
        checked = 0
        for section, typed, printed in examples():
            # Some modules have functions of one name: those of the section are meant.
            for word in MODULES[section.split(":")[0]].split():
                names.update(names_of_module(word))
            with self.subTest(section=section, typed=typed):
                if printed == []:
                    exec(typed, names)
                elif printed[0].startswith("raises "):
                    self.check_error(typed, names, printed[0][len("raises "):])
                    checked += 1
                else:
                    self.assertEqual(repr(eval(typed, names)), printed[0])
                    checked += 1
        self.assertEqual(checked, 88)

    def test_they_are_those_of_the_document(self):
        place = os.path.join(os.path.dirname(PLACE), "..", "..", "shared", "DOC.md")
        if not os.path.exists(place):
            self.skipTest("the document is not beside the project")
        with open(place, encoding="utf-8") as file:
            lines = file.read().split("\n")
        for _, typed, printed in examples():
            self.assertIn(">>> " + typed, lines)
            for line in printed:
                self.assertIn(line, lines)


if __name__ == "__main__":
    unittest.main()
