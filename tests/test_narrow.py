"""Points 16 and 17: orders that share out or shift, the two pictures, books."""

import itertools
import random
import unittest

from eitherboth.errors import NoFull
from eitherboth.narrow import all_books, book_of, picture_of, share_break, shares_out, shifts
from samples import (
    CROSS, SIDE, THREE, Table, alike_words, below_by_rules, chain, chance_word, deep_word, flat, full_orders,
    great_words, letters_in, only_told_kinds, other_orders, points_and_lines, product, read_back, renumbered,
    sets_order, small_full_orders, small_words, turned_by_looking, wide_word, word_pairs, words_of_places,
)

SEVEN = points_and_lines()


def sample_orders():
    """Full orders of up to sixteen things, and all turned over."""
    orders = [order for order in full_orders() if len(order) <= 16] + small_full_orders(6)
    orders += [SEVEN, renumbered(SEVEN, random.Random(7).sample(range(16), 16)), product(chain(3), SIDE)]
    return orders + [turned_by_looking(order) for order in orders]


def reckoned(order):
    """Point 16 said out of the document: whether an order shares out, whether it shifts."""
    table = Table(order)
    fails = [
        (x, y, z) for x in table.every for y in table.every for z in table.every
        if table.down[x, table.up[y, z]] != table.up[table.down[x, y], table.down[x, z]]
    ]
    return not fails, not any(table.below(y, x) for x, y, z in fails)


def is_picture(order, thing):
    """Point 16 said out of the document: True where the thing is a picture in the order."""
    table = Table(order)
    if type(thing) is not tuple or len(thing) != 6 or len(set(thing[1:])) != 5:
        return False
    name, low, x, y, z, high = thing
    if not all(type(number) is int and number in table.every for number in thing[1:]):
        return False
    pairs = [(x, z), (y, z)]
    if name == "three":
        pairs.append((x, y))
    elif name != "side" or not table.below(x, y):
        return False
    return all(table.up[pair] == high and table.down[pair] == low for pair in pairs)


class OrdersTest(unittest.TestCase):
    def test_against_all_threes(self):
        kinds = set()
        for order in sample_orders():
            shares, shift = reckoned(order)
            self.assertIs(shares_out(order), shares)
            self.assertIs(shifts(order), shift)
            kinds.add((shares, shift))
        self.assertEqual(kinds, {(True, True), (False, True), (False, False)})

    def test_by_hand(self):
        for order in (chain(1), chain(2), chain(16), sets_order(2), sets_order(3), sets_order(4), flat(2),
                      product(chain(4), chain(4))):
            self.assertEqual((shares_out(order), shifts(order), picture_of(order)), (True, True, None))
        for order in (THREE, flat(4), flat(14), SEVEN, product(THREE, chain(2))):
            self.assertEqual((shares_out(order), shifts(order), picture_of(order)[0]), (False, True, "three"))
        for order in (SIDE, product(SIDE, chain(3)), product(SIDE, chain(2))):
            self.assertEqual((shares_out(order), shifts(order), picture_of(order)[0]), (False, False, "side"))

    def test_the_two_pictures_themselves(self):
        self.assertEqual(picture_of(SIDE), ("side", 0, 1, 2, 3, 4))
        name, low, x, y, z, high = picture_of(THREE)
        self.assertEqual((name, low, {x, y, z}, high), ("three", 0, {1, 2, 3}, 4))
        moved = renumbered(SIDE, (3, 1, 4, 0, 2))
        self.assertEqual(picture_of(moved), ("side", 3, 1, 4, 0, 2))

    def test_pictures(self):
        for order in sample_orders():
            told = picture_of(order)
            if shares_out(order):
                self.assertIsNone(told)
                continue
            self.assertTrue(is_picture(order, told), (order, told))
            self.assertTrue(only_told_kinds(told))
            self.assertEqual(told[0] == "side", not shifts(order))

    def test_all_full_orders_of_seven_things(self):
        for order in small_full_orders(7)[-53:]:
            told = picture_of(order)
            shares, shift = reckoned(order)
            self.assertEqual((shares_out(order), shifts(order)), (shares, shift))
            self.assertEqual(told is None, shares)
            if told is not None:
                self.assertTrue(is_picture(order, told))
                self.assertEqual(told[0], "three" if shift else "side")

    def test_no_full(self):
        for order in other_orders():
            if len(order) <= 16:
                for told in (shares_out, shifts, picture_of):
                    self.assertRaises(NoFull, told, order)
                    self.assertRaises(NoFull, told, turned_by_looking(order))

    def test_asked_again(self):
        orders = sample_orders()[::5]
        firsts = [(shares_out(order), shifts(order), picture_of(order)) for order in orders]
        self.assertRaises(NoFull, shifts, CROSS)
        again = [(shares_out(order), shifts(order), picture_of(order)) for order in reversed(orders)]
        for order, first, other in zip(orders, firsts, again[::-1]):
            self.assertEqual(first[:2], other[:2])
            self.assertEqual(first[2] is None, other[2] is None)
            self.assertTrue(other[2] is None or is_picture(order, other[2]))


def worth_by_set(word, ones):
    """The worth of a word in the order of two things, with these letters as 1 and all others as 0."""
    if isinstance(word, str):
        return word in ones
    worths = [worth_by_set(arm, ones) for arm in word[1:]]
    return any(worths) if word[0] == "up" else all(worths)


def all_sets(letters):
    """All sets of some letters, as rising tuples, the lesser ones ahead."""
    letters = sorted(letters)
    return [held for many in range(len(letters) + 1) for held in itertools.combinations(letters, many)]


def book_by_trying(word):
    """The least sets of letters that make a word's worth 1, as texts, in the order of texts."""
    found = []
    for held in all_sets(letters_in(word)):
        if not any(set(less) <= set(held) for less in found) and worth_by_set(word, held):
            found.append(held)
    return tuple(sorted("".join(held) for held in found))


class BooksTest(unittest.TestCase):
    def test_by_hand(self):
        for text, book in (
            ("a", ("a",)), ("(a|b)", ("a", "b")), ("(b|a)", ("a", "b")), ("(b&a)", ("ab",)), ("(a&a)", ("a",)),
            ("(a&(b|c))", ("ab", "ac")), ("(a|(b&c))", ("a", "bc")), ("(a|(a&b))", ("a",)),
            ("((a|b)&(b|c)&(c|a))", ("ab", "ac", "bc")), ("((b&a)|(c&b)|(a&c))", ("ab", "ac", "bc")),
            ("((a|b)&(a|c))", ("a", "bc")), ("((z&y)|x)", ("x", "yz")), ("((a|b)&(a|b)&c)", ("ac", "bc")),
            ("((b&c&d)|(a&b)|(a&b&c))", ("ab", "bcd")),
        ):
            self.assertEqual(book_of(read_back(text)), book)

    def test_against_all_sets_of_letters(self):
        words = small_words()[:90] + great_words() + words_of_places(4, "abc")[::40]
        words += [word for pair in word_pairs(20, 61, "abcde") for word in pair]
        for word in words:
            told = book_of(word)
            self.assertEqual(told, book_by_trying(word))
            self.assertTrue(only_told_kinds(told))

    def test_many_sets(self):
        word = read_back("((a|b|c)&(d|e|f)&(g|h|i)&(j|k|l))")
        self.assertEqual(len(book_of(word)), 81)
        self.assertEqual(book_of(word), book_by_trying(word))
        self.assertEqual(book_of(("down", *"lkjihgfedcba")), ("abcdefghijkl",))
        self.assertEqual(book_of(("up", *"lkjihgfedcba")), tuple("abcdefghijkl"))

    def test_form(self):
        for word in great_words():
            told = book_of(word)
            self.assertEqual(list(told), sorted(told))
            for text in told:
                self.assertEqual(list(text), sorted(set(text)))
            for one, other in itertools.permutations(told, 2):
                self.assertFalse(set(one) <= set(other))

    def test_same_of_words_alike(self):
        for word in great_words()[::5]:
            for other in alike_words(word, 4, 4):
                self.assertEqual(book_of(other), book_of(word))

    def test_same_just_where_the_worths_are_the_same_in_sharing_orders(self):
        words = words_of_places(3, "abc")[::7] + small_words()[:12]
        for one, other in itertools.combinations(words, 2):
            same = all(worth_by_set(one, held) == worth_by_set(other, held) for held in all_sets("abc"))
            self.assertEqual(book_of(one) == book_of(other), same)


class ShareBreakTest(unittest.TestCase):
    def check(self, one, other):
        told = share_break(one, other)
        letters = letters_in(one) | letters_in(other)
        breaks = [held for held in all_sets(letters) if worth_by_set(one, held) and not worth_by_set(other, held)]
        if told is None:
            self.assertEqual(breaks, [])
        else:
            self.assertIs(type(told), tuple)
            self.assertIn(told, breaks)
        return told

    def test_by_hand(self):
        self.assertIsNone(share_break("a", "a"))
        self.assertEqual(share_break("a", "b"), ("a",))
        self.assertEqual(share_break("b", "a"), ("b",))
        self.assertIsNone(share_break("a", ("up", "a", "b")))
        self.assertEqual(share_break(("up", "a", "b"), "a"), ("b",))
        self.assertIsNone(share_break(read_back("(a&(b|c))"), read_back("((a&b)|(a&c))")))
        self.assertIsNone(share_break(read_back("((a|b)&(a|c))"), read_back("(a|(b&c))")))
        self.assertIn(share_break(read_back("((b&c)|(d&a))"), "b"), (("a", "d"), ("a", "c", "d")))

    def test_small_words(self):
        for one, other in itertools.product(small_words()[:60], repeat=2):
            self.check(one, other)

    def test_pairs(self):
        kinds = set()
        for one, other in word_pairs(60, 62, "abcdef"):
            for low, high in ((one, other), (other, one)):
                told = self.check(low, high)
                kinds.add(told is None)
                if below_by_rules(low, high):
                    self.assertIsNone(told)
        self.assertEqual(kinds, {True, False})

    def test_words_of_twelve_places(self):
        words = (deep_word(12), wide_word(12), ("down", *"abcdefghijkl"), ("up", *"abcdefghijkl"),
                 read_back("((a|b|c)&(d|e|f)&(g|h|i)&(j|k|l))"))
        for one, other in itertools.product(words, repeat=2):
            self.check(one, other)

    def test_asked_again(self):
        pairs = word_pairs(10, 63, "abcd")
        for (one, other), (low, high) in zip(pairs, pairs[1:]):
            for asked in ((one, other), (low, high), (one, other), (other, one), (one, other)):
                self.check(*asked)


class AllBooksTest(unittest.TestCase):
    def test_how_many(self):
        self.assertEqual([len(all_books(many)) for many in (1, 2, 3)], [1, 4, 18])

    def test_by_hand(self):
        self.assertEqual(all_books(1), (("a",),))
        self.assertEqual(all_books(2), (("a",), ("a", "b"), ("ab",), ("b",)))

    def test_against_what_comes_of_the_letters_by_both_deeds(self):
        for many in (1, 2, 3):
            letters = "abc"[:many]
            sets = all_sets(letters)
            # Each word stands here by its worths, one for each set of letters as 1.
            found = {tuple(letter in held for held in sets): letter for letter in letters}
            while True:
                made = {}
                for (one, low), (other, high) in itertools.product(found.items(), repeat=2):
                    made[tuple(a or b for a, b in zip(one, other))] = ("up", low, high)
                    made[tuple(a and b for a, b in zip(one, other))] = ("down", low, high)
                if set(made) <= set(found):
                    break
                found = {**made, **found}
            wanted = tuple(sorted(book_by_trying(word) for word in found.values()))
            self.assertEqual(all_books(many), wanted)
            self.assertTrue(only_told_kinds(all_books(many)))

    def test_the_book_of_every_word_is_there(self):
        chance = random.Random(17)
        for k in range(600):
            many = k % 3 + 1
            self.assertIn(book_of(chance_word(chance, chance.randint(1, 12), "abc"[:many])), all_books(many))

    def test_asked_again(self):
        firsts = {many: all_books(many) for many in (1, 2, 3)}
        for many in (3, 1, 3, 2, 3, 2, 1):
            self.assertEqual(all_books(many), firsts[many])


if __name__ == "__main__":
    unittest.main()
