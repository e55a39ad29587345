"""Points 24 and 25: words and orders read from their texts, the text of an order."""

import random
import re
import unittest

from eitherboth.breaks import break_of
from eitherboth.errors import NoText
from eitherboth.orders import order_turned
from eitherboth.texts import order_text, read_order, read_word
from eitherboth.words import put_in, text_of
from samples import (
    SIDE, THREE, chain, deep_word, full_orders, great_words, looks_like_order, only_told_kinds, other_orders,
    plain_text, read_back, sets_order, small_words, told_pairs, within,
)

NO_TEXTS = (None, True, False, 0, 1, -1, (), [], ("a",), ["a"], ("up", "a", "b"), (3, 2), ["0,1 1"], ("0,1 1",), ((),))
NO_WORDS = (
    "", " ", "A", "Z", "0", "1", "-", "ab", "a b", "aa", "a ", " a", "a\n", "()", "(a)", "((a|b))", "(a|b", "a|b)",
    "a|b",
    "a&b", "(a|b))", "((a|b)", ")a|b(", "(a|b)|c", "(a|b&c)", "(a&b|c)", "(a|b|c&d)", "(|)", "(a|)", "(|a)", "(a||b)",
    "(a|b|)", "(|a|b)", "(a&&b)", "(a&)", "(&a)", "(a |b)", "(a| b)", "( a|b)", "(a|b )", "(a|B)", "(a|1)", "(a,b)",
    "(a+b)", "(a|(b))", "(a|(b&c)", "(a|b)&c)", "(ab|c)", "(a(b|c))", "((a|b)c)", "((a|b)(c|d))", "[a|b]", "{a|b}",
    "(a\\b)", "(a/b)", "(a|b)a", "a(a|b)", "(a|b)(a|b)", "up", "('up', 'a', 'b')", "`", "{", "(a|`)", "(a|{)", "~",
    "(" * 31, "(" * 2000, ")" * 2000, "a" * 2000, "(a|" * 600, "(a|b" * 400,
)
NO_ORDERS = (
    "", " ", "a", "-1", "0 ", " 0", "0,", ",0", "0,0", "1", "00", "0 0", "1 0", "01", "0,01 1", "00 1", "0 01", "0,1",
    "0,1 ", " 0,1 1", "0,1  1", "0,1 1 ", "0,1,1 1", "0,1, 1", "0,,1 1", ",0,1 1", "0, 1 1", "0 ,1 1", "1,0 1",
    "0,1 0,1",
    "0,1 0", "0,1 2", "0,2 1", "0,1,2 1", "0,1 1,2 2", "0,1,2 1 2,0", "0,1,2 1,2 2,0", "0,1,2 2,1 2", "0,1,2 1,2",
    "0,1,2 1,2 2 3,4", "0,1;1", "0.1 1", "0|1 1", "0,1\n1", "0,1\t1", "+0", "-0", "0,+1 1", "0x0", "1,2 2", "0,1 1,0",
    "0,1 1 2,3", "0 1,3 2", "0,10 1", "0 1 1", "0 1 3", "0,1 1,2 0,2", "0 " * 900, "0," * 900, "9" * 2000,
    "0 " + "1" * 1900,
    "0,1,2,3 1,3 2,3", "0,1,2,3 1,3 2,3 3,4", "(0,1 1)", "[0,1 1]", "3 2", "(3, 2)", "0,1 1 by a:0", "none", "ok",
)


def reads_as_word(text):
    """True where a text is that of a word with at most thirty brackets within one another, each word made a letter."""
    deep = 0
    while re.search(r"\(", text):
        made = re.sub(r"\([a-z](?:(?:\|[a-z])+|(?:&[a-z])+)\)", lambda found: "a", text)
        if made == text:
            return False
        text = made
        deep += 1
    return re.fullmatch("[a-z]", text) is not None and deep <= 30


def reads_as_order(text):
    """Point 25 said out of the document: the order of a text, None where it is no text of one."""
    if not re.fullmatch(r"(0|[1-9][0-9]*)([, ](0|[1-9][0-9]*))*", text):
        return None
    rows = [[int(number) for number in row.split(",")] for row in text.split(" ")]
    if any(row != sorted(set(row)) or row[-1] >= len(rows) for row in rows):
        return None
    order = tuple(sum(2 ** number for number in row) for row in rows)
    return order if looks_like_order(order) else None


def one_sign_otherwise(text, signs):
    """Every text that comes when a sign of a text is put otherwise, left out, put in, or changed for the next one."""
    made = []
    for at in range(len(text) + 1):
        made += [text[:at] + sign + text[at:] for sign in signs]
        if at < len(text):
            made += [text[:at] + sign + text[at + 1:] for sign in signs]
            made += [text[:at] + text[at + 1:], text[:at] + text[at + 1:at + 2] + text[at] + text[at + 2:]]
    return made


def brackets(deep, side):
    """A text of a word with so many brackets within one another, on the left or on the right."""
    text = "a"
    for k in range(deep):
        sign = "|&"[k % 2]
        text = f"({text}{sign}b)" if side == "left" else f"(b{sign}c{sign}{text})"
    return text


class ReadWordTest(unittest.TestCase):
    def test_by_hand(self):
        self.assertEqual(read_word("a"), "a")
        self.assertEqual(read_word("z"), "z")
        self.assertEqual(read_word("(a|b)"), ("up", "a", "b"))
        self.assertEqual(read_word("(b&a&b)"), ("down", "b", "a", "b"))
        self.assertEqual(read_word("(a|b|(c&a))"), ("up", "a", "b", ("down", "c", "a")))
        self.assertEqual(read_word("((a|b)|(c|d))"), ("up", ("up", "a", "b"), ("up", "c", "d")))

    def test_every_text(self):
        words = small_words()[:300] + great_words() + [word for pair in told_pairs(put_in)[::5] for word in pair]
        for word in words:
            told = read_word(text_of(word))
            self.assertEqual(told, word)
            self.assertTrue(only_told_kinds(told))

    def test_thirty_brackets(self):
        for side in ("left", "right"):
            for deep in range(31):
                text = brackets(deep, side)
                self.assertEqual(plain_text(read_word(text)), text)
            for deep in (31, 32, 60, 300):
                self.assertRaises(NoText, read_word, brackets(deep, side))
        both = "(" + brackets(29, "left") + "|" + brackets(29, "right") + "|" + brackets(3, "left") + ")"
        self.assertEqual(plain_text(read_word(both)), both)
        self.assertRaises(NoText, read_word, "(" + brackets(29, "left") + "|" + brackets(30, "right") + ")")

    def test_long_texts(self):
        text = "(" + "|".join("abcdefghijklmnopqrstuvwxyz"[k % 26] for k in range(999)) + ")"
        self.assertEqual(plain_text(read_word(text)), text)
        self.assertRaises(NoText, read_word, text[:-1])

    def test_no_words(self):
        for text in NO_WORDS:
            with self.subTest(text=text[:40]):
                self.assertFalse(reads_as_word(text))
                self.assertRaises(NoText, read_word, text)

    def test_no_texts(self):
        for thing in NO_TEXTS + (within("a", 29, lambda inner: [inner]), ["a"] * 1999, 10 ** 59):
            self.assertRaises(NoText, read_word, thing)
            self.assertRaises(NoText, read_order, thing)

    def test_one_sign_otherwise(self):
        words = [text_of(word) for word in small_words()[:90:4] + great_words()[::16]]
        read = refused = 0
        for text in words:
            for other in one_sign_otherwise(text, "az(|&) AZ09,.~"):
                if reads_as_word(other):
                    self.assertEqual(read_word(other), read_back(other))
                    read += 1
                else:
                    self.assertRaises(NoText, read_word, other)
                    refused += 1
        self.assertGreater(read, 100)
        self.assertGreater(refused, 5000)

    def test_texts_by_chance(self):
        chance = random.Random(24)
        read = 0
        for k in range(4000):
            text = "".join(chance.choice("aab(()|&)") for m in range(chance.randint(1, 7)))
            if reads_as_word(text):
                self.assertEqual(plain_text(read_word(text)), text)
                read += 1
            else:
                self.assertRaises(NoText, read_word, text)
        self.assertGreater(read, 100)


class OrdersTest(unittest.TestCase):
    def test_by_hand(self):
        for order, text in (
            ((1,), "0"), ((3, 2), "0,1 1"), ((1, 3), "0 0,1"), ((1, 2), "0 1"), (chain(3), "0,1,2 1,2 2"),
            (SIDE, "0,1,2,3,4 1,2,4 2,4 3,4 4"), (THREE, "0,1,2,3,4 1,4 2,4 3,4 4"),
        ):
            self.assertEqual(order_text(order), text)
            self.assertEqual(read_order(text), order)

    def test_each_order_again(self):
        for order in full_orders() + other_orders() + [sets_order(5)]:
            text = order_text(order)
            rows = [",".join(str(m) for m in range(len(order)) if row & 2 ** m) for row in order]
            self.assertEqual(text, " ".join(rows))
            self.assertEqual(read_order(text), order)
            self.assertEqual(read_order(order_text(order_turned(order))), order_turned(order))
            self.assertTrue(only_told_kinds(read_order(text)))

    def test_orders_of_breaks(self):
        for one, other in (("a", "b"), (deep_word(6), "a"), (("up", *"abcdefgh"), ("up", *"abcdefg"))):
            order = break_of(one, other)[0]
            for some in (order, order_turned(order)):
                self.assertEqual(reads_as_order(order_text(some)), some)
                self.assertEqual(read_order(order_text(some)), some)

    def test_two_digits(self):
        self.assertEqual(order_text((1 << 0, 1 << 1) + tuple(1 << k for k in range(2, 12))),
                         "0 1 2 3 4 5 6 7 8 9 10 11")
        self.assertEqual(read_order("0 1 2 3 4 5 6 7 8 9 10 11"), tuple(1 << k for k in range(12)))
        self.assertEqual(read_order(order_text(chain(16))), chain(16))
        # The numbers rise as numbers, not as texts.
        self.assertRaises(NoText, read_order, "0 1 2 3 4 5 6 7 8,10,9 9 10")
        self.assertEqual(read_order("0 1 2 3 4 5 6 7 8,9,10 9 10")[8], 0b11100000000)

    def test_no_orders(self):
        for text in NO_ORDERS:
            with self.subTest(text=text[:40]):
                self.assertIsNone(reads_as_order(text))
                self.assertRaises(NoText, read_order, text)

    def test_one_sign_otherwise(self):
        read = refused = 0
        for order in ((1,), (3, 2), (1, 2), chain(3), SIDE, THREE, tuple(1 << k for k in range(11)), sets_order(2)):
            for other in one_sign_otherwise(order_text(order), "0123459, a-+_"):
                wanted = reads_as_order(other)
                if wanted is None:
                    self.assertRaises(NoText, read_order, other)
                    refused += 1
                else:
                    self.assertEqual(read_order(other), wanted)
                    read += 1
        self.assertGreater(read, 20)
        self.assertGreater(refused, 1500)

    def test_texts_by_chance(self):
        chance = random.Random(25)
        read = 0
        for k in range(4000):
            text = "".join(chance.choice("0011,, 2") for m in range(chance.randint(1, 6)))
            wanted = reads_as_order(text)
            if wanted is None:
                self.assertRaises(NoText, read_order, text)
            else:
                self.assertEqual(read_order(text), wanted)
                read += 1
        self.assertGreater(read, 100)


class AskedAgainTest(unittest.TestCase):
    def test_same_after_another(self):
        words = [text_of(word) for word in great_words()[::9]]
        orders = [order_text(order) for order in full_orders()[::5]]
        firsts = [read_word(text) for text in words] + [read_order(text) for text in orders]
        self.assertRaises(NoText, read_word, "(a|")
        self.assertRaises(NoText, read_order, "0,")
        self.assertEqual([read_word(text) for text in words] + [read_order(text) for text in orders], firsts)


if __name__ == "__main__":
    unittest.main()
