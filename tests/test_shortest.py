"""Point 13: words alike, short words, the short word that a word is alike to."""

import itertools
import unittest

from eitherboth.shortest import are_alike, is_short, short_of
from eitherboth.words import places_of, put_in, word_turned
from samples import (
    alike_by_rules, alike_words, at_parts, deep_word, great_words, looks_short, only_told_kinds, plain_text, read_back,
    small_words, told_pairs, wide_word, word_pairs, words_of_places,
)

SMALL = small_words()[:90]
# All words of up to three places in three letters.
LITTLE = [word for places in (1, 2, 3) for word in words_of_places(places, "abc")]
# (word, its short word)
SHORTS = (
    ("a", "a"),
    ("z", "z"),
    ("(a|a)", "a"),
    ("(a&a)", "a"),
    ("(b&b&b)", "b"),
    ("((a|a)&(a|(a&a)))", "a"),
    ("(b|a)", "(a|b)"),
    ("(b&a)", "(a&b)"),
    ("(a|b|a)", "(a|b)"),
    ("(c|(b|a))", "(a|b|c)"),
    ("((c&b)&a)", "(a&b&c)"),
    ("(a|(a&b))", "a"),
    ("(a&(b|a))", "a"),
    ("(a|(b&c))", "((b&c)|a)"),
    ("(a&(b|c))", "((b|c)&a)"),
    ("(b|c|(a&(b|c)))", "(b|c)"),
    ("(b|c|(a&(b|c|d)))", "(((b|c|d)&a)|b|c)"),
    ("(a|(b&(a|c)))", "(((a|c)&b)|a)"),
    ("((a|b)&(a|c))", "((a|b)&(a|c))"),
    ("((a|c)&(b|a))", "((a|b)&(a|c))"),
    ("((a&(b|c))|(b&(b|c)))", "(((b|c)&a)|b)"),
    ("((a&b)|(a&(b|c)))", "((b|c)&a)"),
    ("(a&(b|(a&(b|c))))", "((b|c)&a)"),
    ("((a&b)|(a&c)|(a&b&c))", "((a&b)|(a&c))"),
    ("((a|b)&(c|d)&(a|b|c))", "((a|b)&(c|d))"),
    ("(d|((a|(b&c))&(d|b|(c&a))))", None),
)


def turned_about(word):
    """The same arms in other orders."""
    return [(word[0], *arms) for arms in itertools.permutations(word[1:]) if arms != word[1:]] \
        if isinstance(word, tuple) and len(word) < 5 else []


def own_deed(word):
    """The word with an arm, or two, in brackets of its own deed."""
    if isinstance(word, str):
        return []
    return [(word[0], (word[0], word[1], word[2]), *word[2:]), (word[0], (word[0], "a", "z"), *word[1:])]


def arm_below_another(word):
    """The word with an arm more that is below another one, or the other way about, and with an arm twice."""
    if isinstance(word, str):
        return []
    other = {"up": "down", "down": "up"}[word[0]]
    return [(word[0], *sorted((*word[1:], new), key=plain_text)) for new in (word[1], (other, "z", word[1]))]


def could_give_way(word):
    """The word with an arm more of which an arm is below the word, or beyond it, but it itself in no other arm."""
    if isinstance(word, str):
        return []
    other = {"up": "down", "down": "up"}[word[0]]
    return [(word[0], *sorted((*word[1:], new), key=plain_text)) for new in ((other, word, "z"), (other, "z", word))]


class AlikeTest(unittest.TestCase):
    def check(self, one, other, wanted):
        self.assertIs(are_alike(one, other), wanted)
        self.assertIs(are_alike(other, one), wanted)

    def test_by_hand(self):
        for word, short in SHORTS:
            if short is not None:
                self.check(read_back(word), read_back(short), True)
        for one, other in (("a", "b"), ("a", "(a|b)"), ("a", "(a&b)"), ("(a&b)", "(a|b)"), ("(a|b)", "(a|c)"),
                           ("(a&(b|c))", "((a&b)|(a&c))"), ("(a|(b&c))", "((a|b)&(a|c))"),
                           ("(a|(b&(a|c)))", "((a|b)&(a|c))"), ("(a|b|c)", "(a|b)")):
            self.check(read_back(one), read_back(other), False)

    def test_made_alike_in_many_ways(self):
        for word in SMALL[::3] + great_words()[::5]:
            for other in alike_words(word, 6, 1):
                self.check(word, other, True)
                self.check(word, ("up", other, "q"), False)
                self.check(("down", "q", word), other, False)

    def test_each_way(self):
        word = ("up", "a", ("down", "b", "c"), "d")
        for other in (("up", "d", "a", ("down", "b", "c")), ("up", "a", ("down", "c", "b"), "d"),
                      ("up", ("up", "a", ("down", "b", "c")), "d"), ("up", "a", ("up", ("down", "b", "c"), "d")),
                      ("up", *word[1:], "a"), ("up", "a", ("down", "b", "c", "b"), "d"), ("down", word, word),
                      ("up", *word[1:], ("down", "a", "e")), ("up", word, ("down", "e", word)),
                      ("down", word, ("up", word, "e")), ("up", "a", ("down", "b", "c", ("up", "b", "e")), "d")):
            self.check(word, other, True)

    def test_small_words_by_the_rules(self):
        known = {}
        for one, other in itertools.product(SMALL, repeat=2):
            self.assertIs(are_alike(one, other), alike_by_rules(one, other, known))

    def test_pairs_by_the_rules(self):
        for one, other in word_pairs(40, 51, "abc"):
            self.check(one, other, alike_by_rules(one, other, {}))

    def test_greater_words(self):
        for one, other in told_pairs(put_in)[::4]:
            self.check(one, other, alike_by_rules(one, other, {}))
            self.check(("up", one, other), ("up", other, one, ("down", one, other)), True)


class ShortOfTest(unittest.TestCase):
    def check(self, word):
        """Looks at what is told of a word, and tells it."""
        told = short_of(word)
        known = {}
        self.assertTrue(looks_short(told, known), plain_text(word))
        self.assertTrue(alike_by_rules(word, told, known), plain_text(word))
        self.assertTrue(only_told_kinds(told))
        self.assertIs(is_short(told), True)
        self.assertEqual(short_of(told), told)
        return told

    def test_by_hand(self):
        for word, short in SHORTS:
            with self.subTest(word=word):
                told = self.check(read_back(word))
                if short is not None:
                    self.assertEqual(plain_text(told), short)

    def test_letters_and_deeds_of_one_letter_twice(self):
        for letter in "abcdefghijklmnopqrstuvwxyz":
            self.assertEqual(short_of(letter), letter)
            for deed in ("up", "down"):
                self.assertEqual(short_of((deed, letter, letter)), letter)

    def test_small_words(self):
        for word in SMALL + LITTLE:
            self.check(word)

    def test_great_words(self):
        for word in great_words():
            told = self.check(word)
            self.assertLessEqual(places_of(told), places_of(word))

    def test_great_words_in_few_letters(self):
        for pair in word_pairs(60, 52, "abc"):
            for word in pair:
                self.check(word)

    def test_same_of_all_words_that_are_alike(self):
        for word in SMALL[::4] + great_words()[::4]:
            told = short_of(word)
            for other in alike_words(word, 8, 2):
                self.assertEqual(short_of(other), told)

    def test_same_just_where_alike(self):
        known = {}
        words = SMALL[:40] + LITTLE[::6]
        shorts = [short_of(word) for word in words]
        for (one, low), (other, high) in itertools.product(zip(words, shorts), repeat=2):
            self.assertEqual(low == high, alike_by_rules(one, other, known))

    def test_a_short_word_is_told_as_itself(self):
        known = {}
        many = 0
        for word in LITTLE + words_of_places(4, "abc") + words_of_places(4, "bcd"):
            if looks_short(word, known):
                self.assertEqual(short_of(word), word)
                many += 1
        self.assertGreater(many, 50)

    def test_no_word_of_fewer_places_is_alike(self):
        known = {}
        words = LITTLE + words_of_places(4, "abc")[::60]
        words += [word for pair in word_pairs(8, 53, "abc") for word in pair]
        for told in {short_of(word) for word in words}:
            for other in LITTLE:
                if places_of(other) < places_of(told):
                    self.assertFalse(alike_by_rules(told, other, known))

    def test_greater_words_told_by_put_in(self):
        for pair in told_pairs(put_in):
            for word in pair:
                told = self.check(word)
                self.assertEqual(short_of(("up", word, told)), told)

    def test_greatest_words(self):
        rows = tuple((letter, deep_word(12)) for letter in "abcxyz")
        for word in [put_in(great, rows) for great in (deep_word(12), wide_word(12), *great_words()[-9:])]:
            self.check(word)
            self.check(word_turned(word))

    def test_turned_over(self):
        for word in great_words()[::3]:
            self.assertEqual(short_of(word_turned(word)), short_of(word_turned(short_of(word))))


class IsShortTest(unittest.TestCase):
    def test_by_hand(self):
        for word, short in SHORTS:
            if short is not None:
                self.assertIs(is_short(read_back(word)), word == short)

    def test_all_words_of_few_places(self):
        known = {}
        for word in LITTLE + words_of_places(4, "abc")[::4] + words_of_places(5, "ab")[::20]:
            self.assertIs(is_short(word), looks_short(word, known), plain_text(word))

    def test_great_words(self):
        for word in great_words():
            self.assertIs(is_short(word), looks_short(word, {}))
            self.assertIs(is_short(short_of(word)), True)

    def test_spoilt_at_any_depth(self):
        shorts = {short_of(word) for word in great_words() + [word for pair in word_pairs(10, 54) for word in pair]}
        counts = {}
        for word in sorted(shorts, key=plain_text):
            self.assertIs(is_short(word), True)
            for spoil in (turned_about, own_deed, arm_below_another, could_give_way):
                for other in at_parts(word, spoil):
                    self.assertIs(is_short(other), False, plain_text(other))
                    counts[spoil.__name__] = counts.get(spoil.__name__, 0) + 1
        self.assertEqual(len(counts), 4)
        self.assertGreater(min(counts.values()), 300)

    def test_each_condition_alone(self):
        for text in ("(b|a)", "(a|(b&c))", "((a|b)|c)", "(a|(a|b))", "(a|a)", "((a&b)|a)", "(((b|c)&a)|b|c)",
                     "(((a|b)&(a|c))|b|c)", "(((b|a)&c)|d)", "((((a|c)&a)|b)&c)", "(((a|b)&c)|(b&c))"):
            self.assertIs(is_short(read_back(text)), False, text)
            self.assertIs(is_short(word_turned(read_back(text))), False, text)
        for text in ("(a|b)", "((b&c)|a)", "((a&b)|(a&c))", "(((b|c)&a)|b)", "((((a|b)&c)|a)&(b|c))"):
            self.assertIs(is_short(read_back(text)), True, text)


class AskedAgainTest(unittest.TestCase):
    def test_same_after_another(self):
        words = great_words()[::6] + SMALL[::9]
        firsts = [(short_of(word), is_short(word), are_alike(word, words[0])) for word in words]
        again = [(short_of(word), is_short(word), are_alike(word, words[0])) for word in reversed(words)]
        self.assertEqual(again[::-1], firsts)

    def test_what_is_handed_in_stays(self):
        for word in great_words()[::6]:
            before = repr(word)
            short_of(word), is_short(word), are_alike(word, "a")
            self.assertEqual(repr(word), before)


if __name__ == "__main__":
    unittest.main()
