"""All names of the interface exist, where it lists them, and take what it lists."""
import importlib
import inspect
import os
import unittest

import fivealike.errors

LISTED = {
    "web.webs": "part(web, points) renamed(web, names) recoloured(web, colours) beside(one, other)"
                " joined(one, other) opposite(web) pieces(web) is_row(web, value) atom_of(web, row)"
                " are_like(one, row, other, goal)",
    "web.maps": "is_map(pattern, web, value) is_one_to_one(pattern, web, value) is_same(one, other, value)"
                " maps_of(pattern, web) map_number(pattern, web) one_to_one_number(pattern, web)"
                " told_number(pattern, web) times(one, other) behind(first, second)",
    "width.bags": "is_bags(web, value) bags_width(web, bags) is_bramble(web, k, value) width_answer(web, k)"
                  " is_width_answer(web, k, value) least_width(web) bags_along(web, order)",
    "width.recipes": "is_recipe(k, value) is_open(k, value) recipe_places(recipe, k) recipe_depth(recipe, k)"
                     " recipe_table(recipe, k, web) number_of(recipe, k, web) pattern_of(recipe, k)"
                     " recipe_of(pattern, bags, k) count_along(pattern, bags, web)",
    "colour.rounds": "names_at(webs, k, depth) name_number(webs, k, depth) mark_of(webs, k, depth, which, row)"
                     " type_of(webs, k, depth, which, row) stable_round(webs, k) stable_names(webs, k)"
                     " is_renaming(webs, k, depth, value)",
    "colour.alike": "alike_answer(one, other, k, depth) is_alike_answer(one, other, k, depth, value)"
                    " for_ever(one, other, k) is_for_ever(one, other, k, value)"
                    " is_ladder(one, other, k, depth, value) is_table(one, other, k, value)"
                    " least_apart(one, other, k) are_alike(one, other, k, depth) rounds_apart(one, other)",
    "game.tokens": "is_position(one, other, k, value) is_pairing(one, other, value)"
                   " pairing_for(one, other, k, ladder, depth, position)"
                   " is_pairing_for(one, other, k, ladder, depth, position, value)"
                   " game_answer(one, other, k, depth) is_game_answer(one, other, k, depth, value)"
                   " is_spoiler_table(one, other, k, value) least_moves(one, other, k)"
                   " spoiler_take(one, other, k, table, position, pairing)"
                   " is_spoiler_take(one, other, k, table, position, pairing, value)",
    "say.sentences": "is_saying(k, value) is_sentence(k, value) free_names(k, saying) depths(k, saying)"
                     " tables_of(k, saying, web) is_true(k, sentence, web) not_of(k, sentence) both(k, one, other)"
                     " either(k, one, other) exchanged(k, saying, order) shortened(k, saying)"
                     " true_of(k, saying, web, row)",
    "say.parting": "parting_answer(one, other, k, depth) is_parting_answer(one, other, k, depth, value)"
                   " parting_sentence(one, other, k) is_parting_sentence(one, other, k, value)"
                   " name_line(webs, k, depth, row) is_name_line(webs, k, depth, row, value)"
                   " least_depth(one, other, k) agree(one, other, k, sentences)",
    "pattern.closure": "types_at(one, other, k, m, depth) kept_recipes(one, other, k, m, depth)"
                       " are_kept(one, other, k, m, depth, value) type_sums(one, other, k, m, depth, recipes)"
                       " unlike_recipe(one, other, k, depth) is_unlike_recipe(one, other, k, depth, value)",
    "program.point": "is_partial(one, other, value) partials(one, other, many) is_sum(one, other, k, value)"
                     " members(one, other, k, total) point_of(one, other, k) is_point(one, other, k, value)"
                     " led_on(one, other, k, point, partial) is_led_on(one, other, k, point, partial, value)"
                     " map_point(one, other, k, images) mixed_point(one, other, k, first, second)",
    "program.bars": "are_multipliers(one, other, k, value) coefficients(one, other, k, multipliers)"
                    " do_refuse(one, other, k, partial, value) are_bars(one, other, k, value)"
                    " program_answer(one, other, k) is_program_answer(one, other, k, value)"
                    " partial_answer(one, other, k, partial) is_partial_answer(one, other, k, partial, value)"
                    " turned(one, other, k, multipliers)",
    "depth.forests": "is_forest(pattern, k, value) forest_depth(pattern, k, forest) forest_of(recipe, k)"
                     " recipe_of_forest(pattern, k, forest) least_forest(pattern, k) least_depth(pattern, k)"
                     " unlike_forest(one, other, k) is_unlike_forest(one, other, k, value)",
    "side.keepers": "is_part(one, other, value) is_family(one, other, k, value) greatest_family(one, other, k)"
                    " least_depth(one, other, k) side_answer(one, other, k) is_side_answer(one, other, k, value)"
                    " led_through(one, other, third, k, first, last)",
    "line.lines": "is_line(k, value) are_row_bags(web, value) path_width(web) row_of_bags(web)"
                  " line_of(pattern, bags, k) span_number(one, other, k) line_answer(one, other, k)"
                  " is_line_answer(one, other, k, value)",
    "carry.carried": "made_webs(word, one, other, first, last)"
                     " carried_ladder(word, k, one, other, ladder, first, last, more)"
                     " carried_table(word, k, one, other, table, first, last, more)"
                     " recoloured_ladder(k, one, other, depth, at, colours)"
                     " cancelled(word, k, one, other, third, ladder) pieces_of(recipe, k)"
                     " piece_apart(recipe, k, one, other)",
    "twist.twisted": "twisted(base, ties) over(base) even_map(base, ties, others) section_number(base, ties)"
                     " lifted_number(base, ties, pattern, images) twist_answer(base, ties, k)"
                     " is_twist_answer(base, ties, k, value)",
    "same.search": "look_of(web, row, point) are_like_rows(one, row, other, goal) same_answer(one, other)"
                   " is_same_answer(one, other, value) led_answer(one, row, other, goal)"
                   " is_led_answer(one, row, other, goal, value) is_tries(one, other, value) symmetries_of(web)"
                   " are_symmetries(web, value) symmetry_number(web) moved_points(web) form_of(web) renamed_number(web)",
    "same.counts": "partings(pattern) quotient(pattern, lots) weight(pattern, lots) one_to_one_sum(pattern)"
                   " told_sum(pattern) quotient_width(pattern) pattern_answer(one, other)"
                   " is_pattern_answer(one, other, value)",
    "colour.codes": "code_of(web, k, depth) classes(webs, k, depth) apart_table(webs, k) parting_tree(webs, k)"
                    " tree_classes(tree, depth)",
    "judge.judge": "is_claim(value) opposite(claim) takes(claim, paper)",
    "judge.answers": "answered(claim, *, by='spoiler')",
    "use.texts": "web_text(web) read_web(text) sentence_text(k, sentence) read_sentence(k, text)"
                 " recipe_text(k, recipe) read_recipe(k, text)",
}
CLASSES = {
    ("web.webs", "Web"): "__init__(self, colours, ties) near(self, point) is_tied(self, here, there)"
                         " __len__(self) __contains__(self, value) __eq__(self, other) __str__(self)",
    ("game.tokens", "Play"): "__init__(self, one, other, k) offer(self, pairing) take(self, point, place=0)"
                             " undo(self) twin(self) __len__(self) __eq__(self, other) __str__(self)",
    ("use.bench", "Bench"): "__init__(self) tell(self, line) web(self, name) __len__(self) __str__(self)",
}
CONSTANTS = {
    ("width.bags", "MOST_WIDE"): 12, ("width.recipes", "MOST_LINES"): 2000, ("say.sentences", "MOST_LINES"): 2000,
    ("say.sentences", "MOST_LEAST"): 99, ("pattern.closure", "MOST_KEPT"): 64, ("pattern.closure", "MOST_SPOTS"): 512,
    ("depth.forests", "MOST_TRIED"): 7, ("side.keepers", "MOST_PARTS"): 20000,
    ("carry.carried", "WORDS"): ("beside", "joined", "times"), ("colour.codes", "MOST_FAMILY"): 12,
}
MESSAGES = ("InvalidWeb", "InvalidRow", "InvalidMap", "InvalidBags", "InvalidRecipe", "InvalidSentence",
            "InvalidTable", "InvalidClaim", "InvalidOperation")
KEEPING = {"InvalidNumber": "given", "UnknownName": "wanted", "TooMany": "most", "Refused": "reason",
           "ParseError": "at"}


def split_heads(text):
    """The name and the arguments of each head of a text."""
    heads = [head + ")" for head in text.split(")")[:-1]]
    return [(head.strip().split("(")[0], "(" + head.split("(")[1]) for head in heads]


class Interface(unittest.TestCase):
    def test_functions(self):
        for word, heads in LISTED.items():
            module = importlib.import_module("fivealike." + word)
            for name, arguments in split_heads(heads):
                with self.subTest(name=name):
                    function = vars(module)[name]
                    self.assertTrue(inspect.isfunction(function))
                    self.assertEqual(function.__module__, "fivealike." + word)
                    self.assertEqual(str(inspect.signature(function)), arguments)

    def test_classes(self):
        for (word, name), heads in CLASSES.items():
            kind = vars(importlib.import_module("fivealike." + word))[name]
            self.assertEqual(kind.__module__, "fivealike." + word)
            for method, arguments in split_heads(heads):
                with self.subTest(name=method):
                    self.assertEqual(str(inspect.signature(vars(kind)[method])), arguments)

    def test_what_the_checker_imports(self):
        """Of the files of the checker just the one that makes papers imports more than errors and one another."""
        folder = os.path.dirname(importlib.import_module("fivealike.judge").__file__)
        for name in sorted(os.listdir(folder)):
            if name.endswith(".py") and name != "answers.py":
                with open(os.path.join(folder, name), encoding="utf-8") as file:
                    found = [line.split()[1] for line in file if line.startswith(("import ", "from "))]
                for word in found:
                    self.assertTrue(word == "fivealike.errors" or word.startswith("fivealike.judge."), (name, word))

    def test_constants(self):
        for (word, name), value in CONSTANTS.items():
            self.assertEqual(vars(importlib.import_module("fivealike." + word))[name], value)


class Errors(unittest.TestCase):
    def test_what_they_are_derived_from(self):
        self.assertEqual(fivealike.errors.FiveError.__bases__, (ValueError,))
        for name in MESSAGES + tuple(KEEPING):
            with self.subTest(name=name):
                error = vars(fivealike.errors)[name]
                self.assertEqual(error.__bases__, (fivealike.errors.FiveError,))

    def test_messages(self):
        for name in MESSAGES:
            self.assertEqual(str(vars(fivealike.errors)[name]("what is wrong")), "what is wrong")

    def test_kept_values(self):
        for name, kept in KEEPING.items():
            for value in (None, 7, ("never", 3), "word"):
                with self.subTest(name=name, value=value):
                    error = vars(fivealike.errors)[name](value)
                    self.assertIs(getattr(error, kept), value)
                    self.assertEqual(list(vars(error)), [kept])
                    self.assertNotEqual(str(error), str(value))


if __name__ == "__main__":
    unittest.main()
