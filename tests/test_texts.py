"""Stage 22: texts."""
import unittest

from fivealike.depth.forests import recipe_of_forest
from fivealike.errors import InvalidNumber, InvalidRecipe, InvalidSentence, InvalidWeb, ParseError
from fivealike.pattern.closure import kept_recipes, unlike_recipe
from fivealike.say.parting import parting_sentence
from fivealike.use.texts import read_recipe, read_sentence, read_web, recipe_text, sentence_text, web_text
from fivealike.web.webs import Web
from helper import DOT, FORTY, NO_WEB, RING, STRANGE, TWO, check_refused, full, path, some_web

TRIANGLE = (("tie", 0, 1), ("tie", 0, 2), ("tie", 1, 2), ("all", (0, 1, 2)), ("least", 1, 2, 3), ("least", 1, 1, 4), ("least", 1, 0, 5))
EVERY = (("tie", 0, 2), ("same", 1, 2), ("colour", 0, -1), ("colour", 2, 9), ("not", 0), ("all", ()), ("some", (4, 1, 4, 0)), ("all", (6, 2)),
         ("least", 99, 0, 7), ("least", 1, 2, 8), ("least", 2, 1, 9), ("some", ()), ("all", (10,)))
OPEN = (("one",), ("point", 2), ("tie", 0, 1), ("same", 1, 2), ("colour", 0, 9), ("glue", 3, 2), ("sum", 1, 5), ("glue", 0, 0), ("glue", 6, 4))
WRONG_K = (0, 4, -1, True, None, "1", 10 ** 99)
NO_TEXTS = tuple([value for value in STRANGE if not isinstance(value, str)]) + (b"one\n", ["one\n"], ("one\n",))
# Words that are no number, or another way to tell one.
NO_NUMBERS = ("", "01", "00", "-0", "-01", "+1", "1.0", "1_0", " 1", "1 ", "0x1", "a", "-", "--1", "1-", "1e1", "\t1", "1\r", "9" * 10, "9" * 5000, "-" + "9" * 5000,
              "None", "True", "\u0661", "\u00b2", "1,", ",1", "1,,1")


def texts_near(text):
    """Texts that are much like this one."""
    yield from [text[:-1], text + "\n", "\n" + text, text + " ", " " + text, text[:-1] + " \n", text.replace("\n", "\r\n"), text.replace("\n", "\r"), text.upper(),
                text.replace(" ", "  "), text.replace(" ", "\t"), text.replace("0", "00"), text.replace("1", "01"), text + text, text + "\t\n", text + "#\n",
                text.replace(",", ", "), text.replace(",", " "), text + "\x00"]
    for at in range(len(text)):
        yield text[:at] + text[at + 1:]
        yield text[:at] + text[at] + text[at:]
        for letter in "0129- ,\nt":
            yield text[:at] + letter + text[at + 1:]


class Webs(unittest.TestCase):
    def webs(self):
        yield from [NO_WEB, DOT, FORTY, RING, TWO, path(40), full(40), Web((-1, 9, 0), ((0, 2),)), Web((-1,), ())]
        for seed in range(30):
            yield some_web(seed, seed % 9, 0.5, tuple(range(-1, 10)))

    def test_texts(self):
        self.assertEqual(web_text(RING), "web 0,0,0,0,0,0\n0 1,5\n1 2\n2 3\n3 4\n4 5\n")
        self.assertEqual(web_text(Web((-1,), ())), "web -1\n")
        for web in self.webs():
            text = web_text(web)
            self.assertEqual(read_web(text), web)
            greater = [tuple([there for there in web.near(point) if there > point]) for point in range(len(web))]
            lines = ["web " + (",".join(map(str, web.colours)) or "-")] + [f"{at} {','.join(map(str, lot))}" for at, lot in enumerate(greater) if lot]
            self.assertEqual(text, "".join([line + "\n" for line in lines]))

    def test_no_other_texts(self):
        for web in (NO_WEB, DOT, RING, Web((-1, 0, 9), ((0, 1), (0, 2))), Web((0,) * 12, ((0, 10), (0, 11), (9, 10)))):
            for text in texts_near(web_text(web)):
                try:
                    made = read_web(text)
                except ParseError as error:
                    self.assertTrue(0 <= error.at <= text.count("\n"))
                else:
                    self.assertEqual(web_text(made), text)

    def test_lines_that_are_wrong(self):
        for text, at in (("", 0), ("\n", 0), ("web 0", 0), ("web 0\n\n", 1), ("web 0,0\n0 1", 1), ("web 0,0\n0 1\n\n", 2), ("web 0,0\n0 1\nx", 2), ("web\n", 0), ("web 0 0\n", 0),
                         ("web  0\n", 0), ("web 0 \n", 0), ("Web 0\n", 0), ("web 10\n", 0), ("web -2\n", 0), ("web " + ",".join("0" * 41) + "\n", 0), ("web -,0\n", 0),
                         ("web 0,-\n", 0), ("0 1\nweb 0,0\n", 0), ("web 0,0\n1 0\n", 1), ("web 0,0\n0 2\n", 1), ("web 0,0\n0 0\n", 1), ("web 0,0\n0 -\n", 1),
                         ("web 0,0,0\n0 1,1\n", 1), ("web 0,0,0\n0 2,1\n", 1), ("web 0,0,0\n1 2\n0 1\n", 2), ("web 0,0,0\n0 1\n0 2\n", 2), ("web 0,0\n-1 1\n", 1),
                         ("web 0,0\n0 1 \n", 1), ("web 0,0\n0\n", 1), ("web 0,0\n 0 1\n", 1), ("web 0,0\n0  1\n", 1), ("web 0,0\n0 1 1\n", 1), ("web -\n0 1\n", 1),
                         ("web 0,0,0\n0 1\n1 3\n", 2), ("web 0,0,0\n0 3\nx\n", 1), ("web 0,0\r\n0 1\n", 0), ("web\t0\n", 0), ("web 0,0\n0\t1\n", 1), ("x" * 5000, 0)):
            check_refused(self, ParseError(at), read_web, text)
        for word in NO_NUMBERS:
            if word != "-":
                check_refused(self, ParseError(0), read_web, f"web {word}\n")
            check_refused(self, ParseError(0), read_web, f"web 0,{word}\n")
            check_refused(self, ParseError(1), read_web, f"web 0,0\n{word} 1\n")
            check_refused(self, ParseError(1), read_web, f"web 0,0\n0 {word}\n")
        for text in NO_TEXTS:
            check_refused(self, ParseError(None), read_web, text)
        for web in STRANGE:
            check_refused(self, InvalidWeb(""), web_text, web)

    def test_long_texts(self):
        text = web_text(full(40))
        self.assertEqual(read_web(text), full(40))
        check_refused(self, ParseError(40), read_web, text + "x\n" * 100000)
        check_refused(self, ParseError(0), read_web, "web " + "0," * 100000 + "0\n")


class Sentences(unittest.TestCase):
    def test_texts(self):
        self.assertEqual(sentence_text(2, TRIANGLE), "tie 0 1\ntie 0 2\ntie 1 2\nall 0,1,2\nleast 1 2 3\nleast 1 1 4\nleast 1 0 5\n")
        self.assertEqual(sentence_text(2, EVERY), "tie 0 2\nsame 1 2\ncolour 0 -1\ncolour 2 9\nnot 0\nall -\nsome 4,1,4,0\nall 6,2\nleast 99 0 7\nleast 1 2 8\n"
                                                  "least 2 1 9\nsome -\nall 10\n")
        for k, sentence in ((2, TRIANGLE), (3, TRIANGLE), (2, EVERY), (1, (("all", ()),)), (2, parting_sentence(RING, TWO, 2)),
                            (1, parting_sentence(path(5, 0), path(5, 1), 1)), (1, (("all", ()),) * 2000)):
            self.assertEqual(read_sentence(k, sentence_text(k, sentence)), sentence)

    def test_no_other_texts(self):
        for sentence in (TRIANGLE, EVERY):
            for text in texts_near(sentence_text(2, sentence)):
                try:
                    made = read_sentence(2, text)
                except ParseError as error:
                    self.assertTrue(0 <= error.at <= text.count("\n"))
                else:
                    self.assertEqual(sentence_text(2, made), text)

    def test_lines_that_are_wrong(self):
        begun = "all -\n"
        for text, at in (("", 0), ("\n", 0), ("all -", 0), ("all -\nall -", 1), ("all\n", 0), ("all \n", 0), ("all - -\n", 0), ("all 0\n", 0), ("not 0\n", 0), ("all -1\n", 0),
                         (begun + "all 0,1\n", 1), (begun + "not 1\n", 1), (begun + "least 0 0 0\n", 1), (begun + "least 100 0 0\n", 1), (begun + "least 1 2 0\n", 1),
                         (begun + "least 1 0 1\n", 1), (begun + "least 1 0\n", 1), (begun + "least 1 0 0 0\n", 1), ("tie 1 0\n", 0), ("tie 0 0\n", 0), ("tie 0 2\n", 0),
                         ("same 0 2\n", 0), ("colour 2 0\n", 0), ("colour 0 10\n", 0), ("colour 0 -2\n", 0), ("one\n", 0), ("point 0\n", 0), ("All -\n", 0), ("tie 0,1\n", 0),
                         (begun + "all " + ",".join(["0"] * 41) + "\n", 1), (begun + "some 0 0\n", 1), (begun + "not -\n", 1), (begun + "not 0,0\n", 1), (begun + "\n", 1),
                         # The last line has free names, or none is there: that is told at the end alone.
                         ("tie 0 1\n", 1), ("tie 0 1\nleast 1 0 0\n", 2), ("tie 0 1\nnot 1\n", 1), ("tie 0 1\nall -\ncolour 0 0\n", 3)):
            check_refused(self, ParseError(at), read_sentence, 1, text)
        self.assertEqual(read_sentence(1, "tie 0 1\nall -\n"), (("tie", 0, 1), ("all", ())))
        self.assertEqual(len(read_sentence(1, begun + "all " + ",".join(["0"] * 40) + "\n")), 2)
        for word in NO_NUMBERS:
            check_refused(self, ParseError(0), read_sentence, 1, f"tie {word} 1\n")
            check_refused(self, ParseError(1), read_sentence, 1, f"{begun}least 1 0 {word}\n")
            if word != "-":
                check_refused(self, ParseError(1), read_sentence, 1, f"{begun}some {word}\n")
        check_refused(self, ParseError(2000), read_sentence, 1, begun * 2001)
        check_refused(self, ParseError(2000), read_sentence, 1, begun * 2000 + "x")
        check_refused(self, ParseError(1999), read_sentence, 1, begun * 1999 + "x\n" + begun)
        self.assertEqual(len(read_sentence(1, begun * 2000)), 2000)

    def test_refusals(self):
        for k in WRONG_K:
            check_refused(self, InvalidNumber(k), sentence_text, k, None)
            check_refused(self, InvalidNumber(k), read_sentence, k, None)
        for sentence in STRANGE + (TRIANGLE[:6], list(TRIANGLE), (("tie", 0, True),), THREE, (("all", ()),) * 2001):
            check_refused(self, InvalidSentence(""), sentence_text, 2, sentence)
        check_refused(self, InvalidSentence(""), sentence_text, 1, TRIANGLE)
        for text in NO_TEXTS:
            check_refused(self, ParseError(None), read_sentence, 1, text)


THREE = (("tie", 0, 1), ("tie", 0, 2), ("tie", 1, 2), ("glue", 0, 1), ("glue", 2, 3), ("sum", 2, 4), ("sum", 1, 5), ("sum", 0, 6))


class Recipes(unittest.TestCase):
    def test_texts(self):
        self.assertEqual(recipe_text(2, OPEN), "one\npoint 2\ntie 0 1\nsame 1 2\ncolour 0 9\nglue 3 2\nsum 1 5\nglue 0 0\nglue 6 4\n")
        for k, recipe in ((2, OPEN), (3, OPEN), (2, THREE), (1, (("one",),)), (2, unlike_recipe(RING, TWO, 2, 3)), (1, (("point", 1),) * 2000),
                          (2, recipe_of_forest(full(3), 2, ((None, 0, 1), (0, 1, 2)))), (2, kept_recipes(RING, TWO, 2, 2, 1)[-1])):
            self.assertEqual(read_recipe(k, recipe_text(k, recipe)), recipe)

    def test_no_other_texts(self):
        for recipe in (OPEN, THREE):
            for text in texts_near(recipe_text(2, recipe)):
                try:
                    made = read_recipe(2, text)
                except ParseError as error:
                    self.assertTrue(0 <= error.at <= text.count("\n"))
                else:
                    self.assertEqual(recipe_text(2, made), text)

    def test_lines_that_are_wrong(self):
        for text, at in (("", 0), ("\n", 0), ("one", 0), ("one\none", 1), ("one \n", 0), ("one 0\n", 0), ("point\n", 0), ("point 2\n", 0), ("point -1\n", 0), ("point 0,1\n", 0),
                         ("tie 1 0\n", 0), ("tie 1 1\n", 0), ("tie 0 2\n", 0), ("colour 0 -1\n", 0), ("colour 0 10\n", 0), ("glue 0 0\n", 0), ("one\nglue 0 1\n", 1),
                         ("one\nsum 0 0\n", 1), ("point 0\nsum 1 0\n", 1), ("point 0\nsum 0 1\n", 1), ("point 0\nsum 0 0\nsum 0 1\n", 2), ("all -\n", 0), ("not 0\n", 0),
                         ("one\nglue 0\n", 1), ("one\nglue 0 0 0\n", 1), ("one\n\none\n", 1), ("One\n", 0), ("one\tx\n", 0)):
            check_refused(self, ParseError(at), read_recipe, 1, text)
        for word in NO_NUMBERS:
            check_refused(self, ParseError(0), read_recipe, 1, f"point {word}\n")
            check_refused(self, ParseError(1), read_recipe, 1, f"one\nglue 0 {word}\n")
        check_refused(self, ParseError(2000), read_recipe, 1, "one\n" * 2001)
        check_refused(self, ParseError(2000), read_recipe, 1, "one\n" * 2000 + "one")
        self.assertEqual(len(read_recipe(1, "one\n" * 2000)), 2000)

    def test_refusals(self):
        for k in WRONG_K:
            check_refused(self, InvalidNumber(k), recipe_text, k, None)
            check_refused(self, InvalidNumber(k), read_recipe, k, None)
        for recipe in STRANGE + (list(OPEN), (("point", True),), TRIANGLE, (("one",),) * 2001, (("glue", 0, 0),)):
            check_refused(self, InvalidRecipe(""), recipe_text, 2, recipe)
        check_refused(self, InvalidRecipe(""), recipe_text, 1, OPEN)
        for text in NO_TEXTS:
            check_refused(self, ParseError(None), read_recipe, 1, text)


if __name__ == "__main__":
    unittest.main()
