"""The interface: all names stand in their modules, with their arguments."""

import importlib
import inspect
import unittest

FUNCTIONS = {
    "words": ("is_word(thing)", "places_of(word)", "letters_of(word)", "parts_of(word)", "text_of(word)",
              "put_in(word, choice)", "word_turned(word)"),
    "orders": ("is_order(thing)", "order_turned(order)", "first_lack(order)", "up_of(order, one, other)",
               "down_of(order, one, other)", "worth_of(order, word, choice)", "made_by(order, things)"),
    "below": ("is_below(one, other)",),
    "ways": ("way_of(one, other)", "way_stands(one, other, thing)"),
    "breaks": ("break_of(one, other)", "break_stands(one, other, thing)"),
    "shortest": ("are_alike(one, other)", "is_short(word)", "short_of(word)"),
    "likeness": ("like_letters(row)", "four_words()"),
    "narrow": ("shares_out(order)", "shifts(order)", "picture_of(order)", "book_of(word)", "share_break(one, other)",
               "all_books(many)"),
    "rows": ("single_things(order)", "least_rows(order, thing)", "hanging_pairs(order)", "ring_of(order)",
             "steps_down(order)"),
    "rounds": ("round_words(order, rounds)", "least_words(order)", "greatest_words(order)"),
    "among": ("bar_of(order)", "bar_stands(order, thing)", "words_for(order)", "words_stand(order, thing)"),
    "texts": ("read_word(text)", "order_text(order)", "read_order(text)"),
}


class InterfaceTest(unittest.TestCase):
    def test_functions(self):
        for module, functions in FUNCTIONS.items():
            found = importlib.import_module("eitherboth." + module)
            for told in functions:
                with self.subTest(module=module, told=told):
                    function = getattr(found, told.partition("(")[0])
                    self.assertTrue(inspect.isfunction(function))
                    self.assertEqual(function.__module__, "eitherboth." + module)
                    self.assertEqual(function.__name__ + str(inspect.signature(function)), told)

    def test_desk(self):
        found = importlib.import_module("eitherboth.desk").Desk
        self.assertTrue(inspect.isclass(found))
        self.assertIn("say", vars(found))
        self.assertEqual(str(inspect.signature(found)), "()")
        self.assertEqual(str(inspect.signature(found.say)), "(self, row)")


if __name__ == "__main__":
    unittest.main()
