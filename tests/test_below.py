"""Point 10: when a word is below another one."""

import itertools
import unittest

from eitherboth.below import is_below
from eitherboth.words import put_in, word_turned
from samples import (
    SIDE, THREE, below_by_rules, chain, deep_word, great_words, product, read_back, sets_order,
    small_words, told_pairs, wide_word, word_pairs, worth_by_looking,
)

SMALL = small_words()[:90]
# (one, other, whether the one is below the other, whether the other is below the one)
BY_HAND = (
    ("a", "a", True, True),
    ("a", "b", False, False),
    ("a", "(a|b)", True, False),
    ("(a&b)", "a", True, False),
    ("(a&b)", "(a|b)", True, False),
    ("(a|b)", "(b|a)", True, True),
    ("(a&b)", "(b&a)", True, True),
    ("(a|a)", "a", True, True),
    ("(a&a)", "(a|a)", True, True),
    ("(a|(a&b))", "a", True, True),
    ("(a&(a|b))", "a", True, True),
    ("((a&b)|(a&c))", "(a&(b|c))", True, False),
    ("(a|(b&c))", "((a|b)&(a|c))", True, False),
    ("((a&b)|(b&c)|(c&a))", "((a|b)&(b|c)&(c|a))", True, False),
    ("((a|b)|c)", "(a|b|c)", True, True),
    ("(a&b&c&d)", "((a|b)&(c|d))", True, False),
    ("(a&(b|c))", "(b|c)", True, False),
    ("(a&(b|c))", "(a&b)", False, True),
    ("((a&b)|(c&d))", "((a|c)&(b|d))", True, False),
    ("(a&b)", "(c|d)", False, False),
    ("(a|(b&(a|c)))", "((a|b)&(a|c))", True, False),
    ("((a&b)|(a&(b|c)))", "(a&(b|(a&(b|c))))", True, True),
)


class BelowTest(unittest.TestCase):
    def test_by_hand(self):
        for one, other, there, back in BY_HAND:
            with self.subTest(one=one, other=other):
                self.assertIs(is_below(read_back(one), read_back(other)), there)
                self.assertIs(is_below(read_back(other), read_back(one)), back)

    def test_same_letter(self):
        for one, other in itertools.product("abcdefghijklmnopqrstuvwxyz", repeat=2):
            self.assertIs(is_below(one, other), one == other)

    def test_up_with_each_arm_below(self):
        self.assertIs(is_below(("up", "a", "b"), ("up", "c", "b", "a")), True)
        self.assertIs(is_below(("up", "a", "d"), ("up", "c", "b", "a")), False)
        self.assertIs(is_below(("up", "a", "b", "d"), ("up", "c", "b", "a")), False)

    def test_below_each_arm_of_a_down(self):
        self.assertIs(is_below(("down", "a", "b", "c"), ("down", "c", "a")), True)
        self.assertIs(is_below(("down", "a", "b", "c"), ("down", "c", "a", "d")), False)
        self.assertIs(is_below("a", ("down", "a", ("up", "b", "c"))), False)

    def test_an_arm_of_a_down_below(self):
        self.assertIs(is_below(("down", "a", "b", "c"), "c"), True)
        self.assertIs(is_below(("down", "a", "b", "c"), "d"), False)
        self.assertIs(is_below(("down", "a", ("up", "b", "c")), ("up", "c", "b")), True)

    def test_below_an_arm_of_an_up(self):
        self.assertIs(is_below("c", ("up", "a", "b", "c")), True)
        self.assertIs(is_below("d", ("up", "a", "b", "c")), False)
        self.assertIs(is_below(("down", "b", "c"), ("up", "a", ("down", "c", "b"))), True)

    def test_each_word_below_itself(self):
        for word in SMALL + great_words():
            self.assertIs(is_below(word, word), True)

    def test_small_words_by_the_rules(self):
        known = {}
        for one, other in itertools.product(SMALL, repeat=2):
            self.assertIs(is_below(one, other), below_by_rules(one, other, known))

    def test_pairs_by_the_rules(self):
        both = set()
        for one, other in word_pairs(150, 1) + word_pairs(50, 2, "abcdefghijkl"):
            for low, high in ((one, other), (other, one)):
                told = is_below(low, high)
                self.assertIs(told, below_by_rules(low, high))
                both.add(told)
        self.assertEqual(both, {True, False})

    def test_turned_over(self):
        for one, other in word_pairs(100, 3):
            self.assertIs(is_below(word_turned(other), word_turned(one)), is_below(one, other))

    def test_what_is_below_is_so_in_full_orders(self):
        orders = (chain(3), SIDE, THREE, sets_order(2), product(chain(2), SIDE))
        words = SMALL[::2]
        for order in orders:
            for things in itertools.product(range(min(len(order), 6)), repeat=2):
                worths = [worth_by_looking(order, word, dict(zip("ab", things))) for word in words]
                for (one, low), (other, high) in itertools.product(zip(words, worths), repeat=2):
                    if not order[low] >> high & 1:
                        self.assertIs(is_below(one, other), False)


class GreaterWordsTest(unittest.TestCase):
    def test_told_words_by_the_rules(self):
        for one, other in told_pairs(put_in):
            for low, high in ((one, other), (other, one), (word_turned(one), word_turned(other))):
                self.assertIs(is_below(low, high), below_by_rules(low, high))

    def test_many_arms(self):
        wide = ("up", *[("down", letter, "a") for letter in "bcdefg"])
        self.assertIs(is_below(wide, "a"), True)
        self.assertIs(is_below("a", wide), False)
        self.assertIs(is_below(wide, wide_word(12)), True)
        self.assertIs(is_below(wide_word(12), ("up", *"jihgfedcba")), True)
        self.assertIs(is_below(wide_word(12), word_turned(wide_word(12))), False)
        self.assertIs(is_below(word_turned(wide_word(12)), wide_word(12)), True)

    def test_same_parts_at_many_places(self):
        # Without each pair of parts being looked at once only this would take for ever.
        one, other = "a", "b"
        for k in range(5):
            one = ("down", ("up", one, other), ("up", other, "c"), ("up", one, "d"))
            other = ("up", ("down", one, other), ("down", other, "c"), ("down", one, "e"))
        for low, high in ((one, other), (other, one), (one, word_turned(one)), (word_turned(other), other)):
            self.assertIs(is_below(low, low), True)
            self.assertIs(is_below(low, ("up", "z", low)), True)
            self.assertIs(is_below(("up", "z", low), low), False)
            self.assertIs(is_below(low, high), below_by_rules(low, high))

    def test_put_in_again_and_again(self):
        rows = tuple((letter, deep_word(12)) for letter in "abc")
        great = put_in(put_in(deep_word(12), rows), rows)
        self.assertIs(is_below(great, great), True)
        self.assertIs(is_below(great, put_in(deep_word(12), rows)), below_by_rules(great, put_in(deep_word(12), rows)))
        self.assertIs(is_below(great, ("down", great, "z")), False)
        self.assertIs(is_below(("down", great, "z"), great), True)


class AskedAgainTest(unittest.TestCase):
    def test_same_after_another_and_both_ways_about(self):
        pairs = word_pairs(40, 4)
        firsts = [(is_below(one, other), is_below(other, one)) for one, other in pairs]
        again = [(is_below(one, other), is_below(other, one)) for one, other in reversed(pairs)]
        self.assertEqual(again[::-1], firsts)

    def test_kind(self):
        for one, other in word_pairs(20, 5):
            self.assertIs(type(is_below(one, other)), bool)


if __name__ == "__main__":
    unittest.main()
