"""Points 4, 5 and 6: words, their texts, and what is put into them."""

import copy
import unittest

from eitherboth.words import is_word, letters_of, parts_of, places_of, put_in, text_of, word_turned
from samples import (
    DEEDS, deep_word, great_words, only_told_kinds, put_otherwise, read_back, sample_words, small_words, strewn,
    wide_word, within,
)

LETTERS = "abcdefghijklmnopqrstuvwxyz"
MIXED = ("up", "a", "b", ("down", "c", "a"))
SAMPLES = sample_words()
CHOICES = (
    (),
    (("a", "b"), ("b", "a")),
    (("a", "b"), ("b", "c"), ("c", "a")),
    (("q", ("up", "a", "b")),),
    (("a", ("down", "a", "b")), ("b", ("up", "a", "a", "b")), ("z", "a")),
    (("a", deep_word(12)), ("b", wide_word(12)), ("c", "x")),
)
NO_WORDS = (
    "", "ab", "aa", "A", "Z", "0", " ", "`", "{", "~", "|", "up", "down", "(a|b)", 0, 1, -1, 97, 10 ** 60 - 1, True,
    False, None, (), [], ["a"], ("a",), ("up",), ("down",), ("up", "a"), ("down", ("up", "a", "b")), ("a", "b"),
    ("a", "b", "c"), ["up", "a", "b"], ["down", "a", "b"], ("UP", "a", "b"), ("or", "a", "b"), ("", "a", "b"),
    (None, "a", "b"), (True, "a", "b"), (0, "a", "b"), (("up",), "a", "b"), (["up"], "a", "b"), ("up", ("a", "b")),
    ("up", ["a", "b"]), ("up", "a", "up"), ("up", "a", "B"), ("up", "a", ""), ("up", "a", "bc"), ("up", 1, 2),
    ("up", "a", None), ("up", "a", True), ("up", "a", ()), ("up", "a", ("b",)), ("up", "a", ("up", "b")),
    ("up", "a", ["up", "b", "c"]), ("down", ["up", "a", "b"], "c"), ("up", "a", ("down", "b", ["up", "c", "d"])),
    ("up", "a", ("down", "b", ("over", "c", "d"))), ("a", "up", "b"), ("up", "up", "a", "b"),
)


def told_words():
    """Words that put_in and word_turned told, with more than twelve places among them."""
    put = [put_in(word, choice) for word in great_words()[-20:] for choice in CHOICES]
    return put + [word_turned(word) for word in put]


def balanced_texts(text):
    """All texts of parts within the text of a word, found by their brackets."""
    found, begins = set(), []
    for at, sign in enumerate(text):
        if sign == "(":
            begins.append(at)
        elif sign == ")":
            found.add(text[begins.pop():at + 1])
        elif sign.isalpha():
            found.add(sign)
    return sorted(found)


class IsWordTest(unittest.TestCase):
    def test_each_letter(self):
        for letter in LETTERS:
            self.assertIs(is_word(letter), True)

    def test_words(self):
        for word in SAMPLES + [MIXED] + told_words():
            self.assertIs(is_word(word), True)

    def test_other_things(self):
        for thing in NO_WORDS:
            with self.subTest(thing=thing):
                self.assertIs(is_word(thing), False)

    def test_other_things_as_arms_at_every_place_and_depth(self):
        word = ("up", "a", ("down", "b", ("up", "c", "d", "e")), "f")
        # A deed in the place of the other deed leaves a word, so deeds are not among what is put there.
        for thing in put_otherwise(word, [news for news in NO_WORDS if news not in DEEDS]):
            with self.subTest(thing=thing):
                self.assertIs(is_word(thing), False)
        for deed in DEEDS:
            self.assertIs(is_word((deed, *word[1:])), True)
            self.assertIs(is_word(("up", "a", ("down", "b", deed))), False)

    def test_a_list_in_the_place_of_any_tuple(self):
        for word in small_words():
            if isinstance(word, tuple):
                self.assertIs(is_word(list(word)), False)
                self.assertIs(is_word(("up", "a", ("down", "b", list(word)))), False)

    def test_an_arm_too_few_anywhere(self):
        self.assertIs(is_word(("up", "a", "b")), True)
        self.assertIs(is_word(("up", "a")), False)
        self.assertIs(is_word(("down", "c", ("up", "a"))), False)
        self.assertIs(is_word(("down", "c", ("up",))), False)

    def test_thirty_deep(self):
        deep = within("a", 29, lambda inner: ("up", inner, "b"))
        self.assertIs(is_word(deep), True)
        self.assertIs(is_word(within("A", 29, lambda inner: ("up", inner, "b"))), False)
        self.assertIs(is_word(within("a", 29, lambda inner: ("up", inner))), False)
        self.assertIs(is_word(within(["up", "a", "b"], 28, lambda inner: ("down", "b", inner))), False)
        self.assertIs(is_word(within([], 29, lambda inner: [inner])), False)
        self.assertIs(is_word(within((), 29, lambda inner: (inner,))), False)

    def test_two_thousand_things(self):
        self.assertIs(is_word(("up", *["a"] * 1998)), True)
        self.assertIs(is_word(("up", *["a"] * 1997, "A")), False)
        self.assertIs(is_word(("up", *["a"] * 1997, 10 ** 60 - 1)), False)
        self.assertIs(is_word(["a"] * 1999), False)
        self.assertIs(is_word(tuple(range(1999))), False)
        self.assertIs(is_word("a" * 2000), False)

    def test_told_words_with_one_part_otherwise(self):
        word = put_in(deep_word(12), (("a", deep_word(12)), ("b", wide_word(12))))
        self.assertGreater(places_of(word), 12)
        for thing in put_otherwise(word, (1, "", ["up", "a", "b"], ("up", "a"))):
            self.assertIs(is_word(thing), False)
        self.assertIs(is_word(word[1:]), False)
        self.assertIs(is_word(word + ("up",)), False)
        self.assertIs(is_word(word + ("a",)), True)

    def test_stays_as_it_was_and_the_same_again(self):
        things = [MIXED, ["up", "a", "b"], ("up", "a", ["up", "b", ["c", []]]), [[], [1, [None]]]]
        before = copy.deepcopy(things)
        first = [is_word(thing) for thing in things]
        self.assertEqual(first, [True, False, False, False])
        self.assertEqual([is_word(thing) for thing in things], first)
        self.assertEqual(things, before)


class PlacesLettersPartsTest(unittest.TestCase):
    def test_single_letter(self):
        for letter in LETTERS:
            self.assertEqual(places_of(letter), 1)
            self.assertEqual(letters_of(letter), (letter,))
            self.assertEqual(parts_of(letter), (letter,))

    def test_mixed_word(self):
        self.assertEqual(places_of(MIXED), 4)
        self.assertEqual(letters_of(MIXED), ("a", "b", "c"))
        self.assertEqual(parts_of(MIXED), (MIXED, ("down", "c", "a"), "a", "b", "c"))

    def test_letters_rise_whatever_their_places(self):
        self.assertEqual(letters_of(("down", "z", ("up", "m", "a", "z"), "b")), ("a", "b", "m", "z"))

    def test_same_part_at_several_places(self):
        part = ("down", "b", "a")
        word = ("up", part, "b", ("down", part, part), part)
        self.assertEqual(places_of(word), 9)
        self.assertEqual(letters_of(word), ("a", "b"))
        # The texts begin alike; "&" stands ahead of "|", and "(" ahead of letters.
        self.assertEqual(parts_of(word), (("down", part, part), word, part, "a", "b"))

    def test_same_letter_only(self):
        word = ("up", "a", "a", "a")
        self.assertEqual(places_of(word), 3)
        self.assertEqual(letters_of(word), ("a",))
        self.assertEqual(parts_of(word), (word, "a"))

    def test_unlike_arm_orders_and_deeds_are_unlike_parts(self):
        word = ("up", ("down", "a", "b"), ("down", "b", "a"), ("up", "a", "b"))
        self.assertEqual(
            parts_of(word), (word, ("down", "a", "b"), ("up", "a", "b"), ("down", "b", "a"), "a", "b"))

    def test_twelve_places(self):
        word = wide_word(12)
        self.assertEqual(places_of(word), 12)
        self.assertEqual(letters_of(word), tuple("abcdefghij"))
        self.assertEqual(parts_of(word), (word, *"abcdefghij"))
        self.assertEqual(places_of(deep_word(12)), 12)
        self.assertEqual(len(parts_of(deep_word(12))), 14)

    def test_against_texts(self):
        for word in SAMPLES + told_words():
            text = text_of(word)
            signs = [sign for sign in text if sign.isalpha()]
            self.assertEqual(places_of(word), len(signs))
            self.assertEqual(letters_of(word), tuple(sorted(set(signs))))
            self.assertEqual(parts_of(word), tuple(read_back(part) for part in balanced_texts(text)))

    def test_parts_are_in_the_order_of_their_texts(self):
        for word in SAMPLES:
            texts = [text_of(part) for part in parts_of(word)]
            self.assertEqual(texts, sorted(set(texts)))

    def test_told_words_of_many_places(self):
        word = put_in(wide_word(12), tuple((letter, wide_word(12)) for letter in "abcdefghij"))
        self.assertEqual(places_of(word), 144)
        self.assertEqual(letters_of(word), tuple("abcdefghij"))
        self.assertEqual(parts_of(word), (word, wide_word(12), *"abcdefghij"))
        greater = put_in(word, tuple((letter, word) for letter in "abcdefghij"))
        self.assertEqual(places_of(greater), 144 * 144)
        self.assertEqual(len(parts_of(greater)), 14)


class TextTest(unittest.TestCase):
    def test_letters(self):
        for letter in LETTERS:
            self.assertEqual(text_of(letter), letter)

    def test_words(self):
        self.assertEqual(text_of(MIXED), "(a|b|(c&a))")
        self.assertEqual(text_of(("down", "b", "a")), "(b&a)")
        self.assertEqual(text_of(("up", ("up", "a", "b"), "c")), "((a|b)|c)")
        self.assertEqual(text_of(("up", "a", ("up", "b", "c"))), "(a|(b|c))")
        self.assertEqual(text_of(("down", ("up", "a", "b"), ("down", "c", "d", "d"))), "((a|b)&(c&d&d))")
        self.assertEqual(text_of(("down", *"zyxwvutsrqpo")), "(z&y&x&w&v&u&t&s&r&q&p&o)")

    def test_texts_read_back(self):
        for word in SAMPLES + told_words():
            self.assertEqual(read_back(text_of(word)), word)

    def test_unlike_words_have_unlike_texts(self):
        words = small_words()
        self.assertEqual(len(words), 1082)
        self.assertEqual(len(set(words)), len(words))
        self.assertEqual(len({text_of(word) for word in words}), len(words))


class PutInTest(unittest.TestCase):
    def test_all_at_once(self):
        self.assertEqual(put_in(("up", "a", "b"), (("a", "b"), ("b", "a"))), ("up", "b", "a"))
        self.assertEqual(
            put_in(("down", "a", ("up", "b", "c")), (("a", "b"), ("b", "c"), ("c", "a"))),
            ("down", "b", ("up", "c", "a")))
        self.assertEqual(
            put_in(("up", "a", "b", "a"), (("a", ("down", "a", "b")), ("b", ("up", "a", "a")))),
            ("up", ("down", "a", "b"), ("up", "a", "a"), ("down", "a", "b")))

    def test_arms_of_the_same_deed_stay_within_one_another(self):
        self.assertEqual(put_in(("up", "a", "b"), (("a", ("up", "c", "d")),)), ("up", ("up", "c", "d"), "b"))

    def test_no_rows(self):
        for word in SAMPLES:
            self.assertEqual(put_in(word, ()), word)

    def test_rows_of_other_letters(self):
        for word in SAMPLES:
            self.assertEqual(put_in(word, (("q", ("up", "a", "b")), ("r", "a"))), word)

    def test_letter_without_a_row_stays(self):
        self.assertEqual(put_in(MIXED, (("b", "x"),)), ("up", "a", "x", ("down", "c", "a")))
        self.assertEqual(put_in("a", (("b", "x"),)), "a")

    def test_into_a_letter(self):
        self.assertEqual(put_in("a", (("a", MIXED), ("b", "c"), ("c", "d"))), MIXED)

    def test_texts(self):
        for choice in CHOICES:
            texts = {letter: text_of(row) for letter, row in choice}
            for word in SAMPLES:
                wanted = "".join(texts.get(sign, sign) for sign in text_of(word))
                self.assertEqual(text_of(put_in(word, choice)), wanted)

    def test_told_words_put_in_again(self):
        for word in told_words():
            texts = {"a": text_of(word), "x": "y"}
            wanted = "".join(texts.get(sign, sign) for sign in text_of(word))
            self.assertEqual(text_of(put_in(word, (("a", word), ("x", "y")))), wanted)


class TurnedTest(unittest.TestCase):
    def test_words(self):
        self.assertEqual(word_turned("a"), "a")
        self.assertEqual(word_turned(MIXED), ("down", "a", "b", ("up", "c", "a")))
        self.assertEqual(
            word_turned(("down", ("up", "a", ("up", "b", "c")), ("down", "a", "a"))),
            ("up", ("down", "a", ("down", "b", "c")), ("up", "a", "a")))

    def test_each_deed_at_every_depth(self):
        for word in SAMPLES + told_words():
            self.assertEqual(text_of(word_turned(word)), text_of(word).translate(str.maketrans("|&", "&|")))

    def test_twice(self):
        for word in SAMPLES + told_words():
            self.assertEqual(word_turned(word_turned(word)), word)


class AskedAgainTest(unittest.TestCase):
    def answers(self, word):
        return [
            is_word(word), places_of(word), letters_of(word), parts_of(word), text_of(word), word_turned(word),
            *[put_in(word, choice) for choice in CHOICES],
        ]

    def test_same_after_another(self):
        words = great_words()
        firsts = [self.answers(word) for word in words]
        for word, first in zip(words, firsts):
            self.assertEqual(self.answers(word), first)

    def test_kinds_of_what_is_told(self):
        for word in SAMPLES:
            for answer in self.answers(word):
                self.assertTrue(only_told_kinds(answer))

    def test_kinds_of_each(self):
        for word in SAMPLES:
            self.assertIs(type(is_word(word)), bool)
            self.assertIs(type(places_of(word)), int)
            self.assertIs(type(letters_of(word)), tuple)
            self.assertIs(type(parts_of(word)), tuple)
            self.assertIs(type(text_of(word)), str)
            self.assertTrue(is_word(put_in(word, CHOICES[-1])))
            self.assertTrue(is_word(word_turned(word)))

    def test_what_is_handed_in_stays(self):
        choice = CHOICES[-1]
        before = repr((MIXED, choice))
        self.answers(MIXED)
        put_in(MIXED, choice)
        self.assertEqual(repr((MIXED, choice)), before)


class SamplesTest(unittest.TestCase):
    def test_samples_reach_what_they_should(self):
        words = great_words()
        self.assertEqual({places_of(word) for word in words}, set(range(1, 13)))
        self.assertGreaterEqual(max(places_of(word) for word in told_words()), 100)
        self.assertEqual(len(strewn(("up", *["a"] * 1998))), 2000)


if __name__ == "__main__":
    unittest.main()
