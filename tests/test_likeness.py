"""Points 14 and 15: rows of words that behave like letters."""

import itertools
import random
import unittest

from eitherboth.below import is_below
from eitherboth.likeness import four_words, like_letters
from eitherboth.words import put_in, word_turned
from samples import (
    alike_words, below_by_rules, chance_word, deep_word, great_words, plain_text, read_back, small_words, wide_word,
)

TEXTS = (
    "((a|(b&(a|c)))&(b|c))", "((a|(c&(a|b)))&(b|c))", "((a|c)&(b|(a&(b|c))))", "((a|c)&(b|(c&(a|b))))",
)
# (a row, what is told of it)
ROWS = (
    (("a",), None),
    (("(a&b)",), None),
    (("a", "b"), None),
    (("b", "a", "z"), None),
    (("a", "b", "c", "d", "e"), None),
    (("a", "a"), (0, "up")),
    (("a", "(a|b)"), (0, "up")),
    (("(a|b)", "a"), (0, "down")),
    (("(a&b)", "b"), (0, "up")),
    (("b", "(a&b)"), (0, "down")),
    (("a", "b", "(a|b)"), (0, "up")),
    (("a", "b", "(a&b)"), (0, "down")),
    (("a", "b", "(a&c)"), (0, "down")),
    (("a", "b", "(c&(a|b))"), (2, "up")),
    (("a", "b", "(c|(a&b))"), (2, "down")),
    (("c", "a", "(b|(a&c))", "b"), (2, "up")),
    (("a", "b", "c", "(d|b)"), (1, "up")),
    (("a", "b", "c", "(d&b)"), (1, "down")),
    (("d", "b", "c", "b"), (1, "up")),
    (("d", "e", "b", "b", "f"), (2, "up")),
    (("(a&b)", "(b&c)", "(c&a)"), (0, "down")),
    (("(a|b)", "(b|c)", "(c|a)"), (0, "up")),
    (("(a|b)", "(c|d)", "(e|f)"), None),
    (("a", "b", "c", "((a|b)&(b|c)&(c|a))"), (3, "up")),
    (("(a&(b|c))", "(b&(c|a))", "(c&(a|b))"), None),
)


def told_by_looking(row):
    """Point 14 said out of the document."""
    if len(row) == 1:
        return None
    for at, word in enumerate(row):
        others = row[:at] + row[at + 1:]
        for deed in ("up", "down"):
            together = others[0] if len(others) == 1 else (deed, *others)
            if below_by_rules(word, together) if deed == "up" else below_by_rules(together, word):
                return (at, deed)
    return None


class LikeLettersTest(unittest.TestCase):
    def check(self, row):
        told = like_letters(row)
        self.assertEqual(told, told_by_looking(row))
        self.assertTrue(told is None or (type(told) is tuple and type(told[0]) is int))
        return told

    def test_by_hand(self):
        for texts, wanted in ROWS:
            with self.subTest(texts=texts):
                row = tuple(read_back(text) for text in texts)
                self.assertEqual(told_by_looking(row), wanted)
                self.assertEqual(like_letters(row), wanted)

    def test_one_word(self):
        for word in small_words()[:90] + great_words():
            self.assertIsNone(like_letters((word,)))

    def test_unlike_letters(self):
        for many in range(1, 6):
            for row in list(itertools.permutations("abcdexyz", many))[::17]:
                self.assertIsNone(like_letters(row))

    def test_two_words(self):
        words = small_words()[:40]
        for one, other in itertools.product(words, repeat=2):
            wanted = (0, "up") if is_below(one, other) else (0, "down") if is_below(other, one) else None
            self.assertEqual(like_letters((one, other)), wanted)

    def test_a_word_twice(self):
        for word in great_words()[::7]:
            self.assertEqual(like_letters((word, word)), (0, "up"))
            self.assertEqual(like_letters((word, word, word)), (0, "up"))
            self.assertIsNotNone(self.check(("p", word, "q", alike_words(word, 2, 3)[1])))

    def test_up_ahead_of_down(self):
        # The first word that doesn't behave like a letter doesn't by both deeds.
        self.assertEqual(like_letters(("a", "a", "a")), (0, "up"))
        row = ("a", "b", ("up", "a", "c"), ("down", "a", "d"))
        self.assertEqual(like_letters(row), (0, "up"))
        self.assertEqual(like_letters((row[1], row[0], *row[2:])), (1, "up"))

    def test_small_rows(self):
        words = small_words()[:22]
        for many in (3, 4):
            for row in list(itertools.product(words + ["c", "d"], repeat=many))[::97]:
                self.check(row)

    def test_great_rows(self):
        chance = random.Random(14)
        kinds = set()
        for k in range(300):
            letters = "abcdefghijklmnop"[:chance.randint(2, 16)]
            row = tuple(chance_word(chance, chance.randint(1, 12), letters) for m in range(chance.randint(2, 5)))
            kinds.add(self.check(row))
            kinds.add(self.check((*row[:4], "q")))
        self.assertLess({None, (0, "up"), (0, "down"), (1, "up"), (1, "down"), (2, "up"), (2, "down")}, kinds)

    def test_twelve_places(self):
        for row in itertools.permutations((deep_word(12), wide_word(12), word_turned(deep_word(12)), "z", "y"), 5):
            self.check(row)

    def test_where_they_behave_so_words_in_them_are_below_one_another_as_words_in_letters_are(self):
        chance = random.Random(15)
        rows = [tuple(read_back(text) for text in texts) for texts, wanted in ROWS if wanted is None]
        for row in rows + [four_words(), four_words()[::-1], four_words()[1:]]:
            letters = "abcde"[:len(row)]
            choice = tuple(zip(letters, row))
            for k in range(60):
                one, other = (chance_word(chance, chance.randint(1, 5), letters) for m in range(2))
                self.assertIs(is_below(put_in(one, choice), put_in(other, choice)), below_by_rules(one, other))


class FourWordsTest(unittest.TestCase):
    def test_their_texts(self):
        self.assertIs(type(four_words()), tuple)
        self.assertEqual(tuple(plain_text(word) for word in four_words()), TEXTS)
        self.assertEqual(four_words(), tuple(read_back(text) for text in TEXTS))

    def test_some_of_them_in_any_row(self):
        for many in range(1, 5):
            for row in itertools.permutations(four_words(), many):
                self.assertIsNone(like_letters(row))
                self.assertIsNone(told_by_looking(row))


class AskedAgainTest(unittest.TestCase):
    def test_same_after_another(self):
        rows = [tuple(read_back(text) for text in texts) for texts, wanted in ROWS]
        firsts = [like_letters(row) for row in rows]
        again = [(like_letters(row), four_words())[0] for row in reversed(rows)]
        self.assertEqual(again[::-1], firsts)
        self.assertEqual(four_words(), four_words())


if __name__ == "__main__":
    unittest.main()
