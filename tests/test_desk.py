"""Point 26: a desk, its rows, its answers and its refusals."""

import itertools
import random
import re
import unittest

from eitherboth.among import bar_of, words_for
from eitherboth.breaks import break_of
from eitherboth.desk import Desk
from eitherboth.errors import NoEnd, NoFull, NoName, NoRoom, NoRow, NoText, WordError
from eitherboth.rows import steps_down
from eitherboth.shortest import short_of
from samples import (
    SIDE, THREE, Table, alike_by_rules, below_by_rules, breaks_it, chain, deep_word, flat, forms_by_looking,
    great_words, is_bar_by_looking, lack_by_looking, letters_in, looks_short, plain_text, points_and_lines, product,
    read_back, sets_order, small_full_orders, turned_by_looking, wide_word, within, word_pairs, worth_by_looking,
)

NAME = "([a-z]{1,8})"
SIGNS = "([^ ]+)"
FORMS = {
    "word": f"word {NAME} {SIGNS}", "order": f"order {NAME} (.+)", "put": f"put {NAME} {NAME} {SIGNS} {NAME}",
    "turn": f"turn {NAME} {NAME}", "short": f"short {NAME} {NAME}", "show": f"show {NAME}",
    "below": f"below {NAME} {NAME}", "alike": f"alike {NAME} {NAME}", "break": f"break {NAME} {NAME}",
    "worth": f"worth {NAME} {NAME}((?: [^ ]+)*)", "lives": f"lives {NAME}", "steps": f"steps {NAME}", "names": "names",
}


def order_by_text(order):
    """The text of an order by point 25."""
    return " ".join(",".join(str(k) for k in range(len(order)) if row >> k & 1) for row in order)


def desk_with(**kept):
    """A desk that was told these words and orders."""
    desk = Desk()
    for name, thing in kept.items():
        is_order = isinstance(thing[0], int)
        row = f"order {name} {order_by_text(thing)}" if is_order else f"word {name} {plain_text(thing)}"
        assert desk.say(row) == "ok"
    return desk


def all_that_stands(desk):
    """What a desk has by its names."""
    names = desk.say("names")
    return names if names == "none" else [(name, desk.say("show " + name)) for name in names.split(" ")]


def read_break(text):
    """The break that a desk told, as point 12 has it."""
    order, by, choice = text.partition(" by ")
    rows = [[int(number) for number in row.split(",")] for row in order.split(" ")]
    pairs = [pair.split(":") for pair in choice.split(" ")]
    return (tuple(sum(1 << number for number in row) for row in rows),
            tuple((letter, int(number)) for letter, number in pairs))


class AnswersTest(unittest.TestCase):
    def check(self, desk, rows):
        for row, answer in rows:
            with self.subTest(row=row):
                told = desk.say(row)
                self.assertIs(type(told), str)
                self.assertEqual(told, answer)

    def test_words(self):
        self.check(Desk(), (
            ("names", "none"), ("word x (a|(b&c))", "ok"), ("show x", "(a|(b&c))"), ("names", "x"),
            ("word abcdefgh z", "ok"), ("show abcdefgh", "z"), ("names", "abcdefgh x"),
            ("word y ((a|b)&(a|c))", "ok"), ("below x y", "yes"), ("below y x", "no"), ("alike x y", "no"),
            ("alike y x", "no"), ("alike x x", "yes"), ("below x x", "yes"), ("break x y", "none"),
            ("turn t x", "ok"), ("show t", "(a&(b|c))"), ("turn x x", "ok"), ("show x", "(a&(b|c))"),
            ("alike x t", "yes"), ("put p x b y", "ok"), ("show p", "(a&(((a|b)&(a|c))|c))"), ("show x", "(a&(b|c))"),
            ("put p p z x", "ok"), ("show p", "(a&(((a|b)&(a|c))|c))"), ("put x x a x", "ok"),
            ("show x", "((a&(b|c))&(b|c))"), ("short s x", "ok"), ("show s", "((b|c)&a)"), ("short x x", "ok"),
            ("show x", "((b|c)&a)"), ("alike s t", "yes"), ("names", "abcdefgh p s t x y"),
        ))

    def test_orders(self):
        self.check(Desk(), (
            ("order n 0,1,2,3,4 1,2,4 2,4 3,4 4", "ok"), ("show n", "0,1,2,3,4 1,2,4 2,4 3,4 4"),
            ("steps n", "0 0 1 0 1"), ("turn m n", "ok"), ("show m", "0 0,1 0,1,2 0,3 0,1,2,3,4"),
            ("steps m", "1 1 0 0 0"), ("order one 0", "ok"), ("show one", "0"), ("steps one", "0"),
            ("order two 0 1", "ok"), ("show two", "0 1"), ("turn two two", "ok"), ("show two", "0 1"),
            ("order two 0,1 1", "ok"), ("turn two two", "ok"), ("show two", "0 0,1"), ("names", "m n one two"),
            ("word w ((c|a)&b)", "ok"), ("worth w n 1 2 3", "2"), ("worth w n 0 0 0", "0"), ("worth w n 0 4 4", "4"),
            ("worth w m 4 1 3", "4"), ("worth w one 0 0 0", "0"), ("word v z", "ok"), ("worth v n 3", "3"),
        ))

    def test_a_name_stands_for_what_it_was_told_for_last(self):
        desk = Desk()
        self.check(desk, (
            ("word x a", "ok"), ("order y 0,1 1", "ok"), ("show x", "a"), ("order x 0", "ok"), ("show x", "0"),
            ("steps x", "0"), ("word y b", "ok"), ("show y", "b"), ("below y y", "yes"), ("names", "x y"),
            ("turn y x", "ok"), ("show y", "0"), ("word x (a|b)", "ok"), ("short y x", "ok"), ("show y", "(a|b)"),
        ))
        self.assertRaises(NoName, desk.say, "steps x")
        self.assertRaises(NoName, desk.say, "worth x y 0 0")
        self.assertEqual(desk.say("order x 0,1 1"), "ok")
        self.assertRaises(NoName, desk.say, "below x y")
        self.assertEqual(desk.say("worth y x 0 1"), "1")

    def test_names_that_are_rows_too(self):
        self.check(Desk(), (
            ("word word a", "ok"), ("word order b", "ok"), ("order names 0,1 1", "ok"), ("word none c", "ok"),
            ("word by (a|b)", "ok"), ("names", "by names none order word"), ("show word", "a"), ("show order", "b"),
            ("below word by", "yes"), ("steps names", "0 0"), ("put order by a word", "ok"), ("show order", "(a|b)"),
        ))

    def test_two_desks_know_nothing_of_one_another(self):
        one, other = Desk(), Desk()
        self.assertEqual(one.say("word x a"), "ok")
        self.assertEqual(other.say("names"), "none")
        self.assertRaises(NoName, other.say, "show x")
        self.assertEqual(other.say("order x 0"), "ok")
        self.assertEqual([one.say("show x"), other.say("show x")], ["a", "0"])
        self.assertEqual(Desk().say("names"), "none")

    def test_names_in_the_order_of_texts(self):
        desk = Desk()
        names = ["b", "ab", "a", "aa", "z", "abc", "zz", "ba", "abcdefgh"]
        for name in names:
            desk.say(f"word {name} a")
        self.assertEqual(desk.say("names"), " ".join(sorted(names)))

    def test_bounds_of_what_is_kept(self):
        desk = Desk()
        for word in great_words():
            self.assertEqual(desk.say("word x " + plain_text(word)), "ok")
            self.assertEqual(desk.say("show x"), plain_text(word))
            self.assertEqual([desk.say("turn y x"), desk.say("short z y")], ["ok", "ok"])
            self.assertEqual(desk.say("show z"), plain_text(short_of(read_back(desk.say("show y")))))
        for order in (chain(16), flat(14), points_and_lines(), sets_order(4)):
            self.assertEqual(desk.say("order x " + order_by_text(order)), "ok")
            self.assertEqual(desk.say("turn y x"), "ok")
            self.assertEqual(desk.say("show y"), order_by_text(turned_by_looking(order)))


class FoundTest(unittest.TestCase):
    def test_breaks(self):
        kinds = set()
        for one, other in word_pairs(12, 91, "abc"):
            desk = desk_with(x=one, y=other)
            self.assertEqual(desk.say("below x y"), "yes" if below_by_rules(one, other) else "no")
            self.assertEqual(desk.say("alike x y"), "yes" if alike_by_rules(one, other, {}) else "no")
            try:
                told = desk.say("break x y")
            except NoRoom:
                self.assertRaises(NoRoom, break_of, one, other)
                kinds.add("room")
                continue
            self.assertEqual(told == "none", below_by_rules(one, other))
            kinds.add("none" if told == "none" else "break")
            if told != "none":
                order, choice = read_break(told)
                self.assertTrue(breaks_it(one, other, (order, choice)))
                self.assertEqual([letter for letter, thing in choice], sorted(letters_in(one) | letters_in(other)))
                inner = " ".join(f"{letter}:{thing}" for letter, thing in choice)
                self.assertEqual(told, f"{order_by_text(order)} by {inner}")
        self.assertLessEqual({"none", "break"}, kinds)

    def test_short(self):
        for word in great_words()[::4]:
            desk = desk_with(x=word)
            self.assertEqual(desk.say("short x x"), "ok")
            told = read_back(desk.say("show x"))
            self.assertTrue(looks_short(told, {}))
            self.assertTrue(alike_by_rules(told, word, {}))

    def test_lives(self):
        kinds = set()
        for order in small_full_orders(6) + [sets_order(3), flat(6), product(chain(4), chain(2))]:
            desk = desk_with(n=order)
            told = desk.say("lives n").split(" ")
            if told[0] == "yes":
                words = tuple(read_back(text) for text in told[1:])
                self.assertTrue(forms_by_looking(order, words))
                self.assertTrue(all(looks_short(word, {}) for word in words))
                self.assertIsNotNone(words_for(order))
            else:
                self.assertEqual(told[0], "no")
                bar = (told[1], *[int(number) for number in told[2:]])
                self.assertEqual([str(number) for number in bar[1:]], told[2:])
                self.assertTrue(is_bar_by_looking(Table(order), bar))
                self.assertIsNotNone(bar_of(order))
            kinds.add(told[0])
        self.assertEqual(kinds, {"yes", "no"})

    def test_steps(self):
        for order in small_full_orders(6) + [chain(10), product(chain(5), chain(2))]:
            desk = desk_with(n=order)
            try:
                wanted = " ".join(str(number) for number in steps_down(order))
            except NoEnd:
                self.assertRaises(NoEnd, desk.say, "steps n")
                continue
            self.assertEqual(desk.say("steps n"), wanted)

    def test_worth(self):
        chance = random.Random(26)
        for word, order in itertools.product(great_words()[::11], (SIDE, THREE, chain(16), sets_order(3))):
            desk = desk_with(x=word, n=order)
            letters = sorted(letters_in(word))
            things = [chance.randrange(len(order)) for letter in letters]
            told = desk.say(" ".join(["worth x n", *[str(thing) for thing in things]]))
            self.assertEqual(told, str(worth_by_looking(order, word, dict(zip(letters, things)))))


NO_ROWS = (
    None, True, 0, (), [], ("names",), ["names"], "", " ", "  ", "Names", "names ", " names", "names x", "nam", "name",
    "word", "word x", "word x ", "word  x a", "word x  a", "word x a ", " word x a", "word x a b", "word x (a | b)",
    "word X a", "word x1 a", "word abcdefghi a", "word x-y a", "word  a", "Word x a", "words x a", "word x (a |b)",
    "order", "order x", "order x ", "order  x 0", "order  0", "order X 0", "order abcdefghi 0", "order 0 0",
    " order x 0",
    "Order x 0", "orders x 0", "order\tx 0",
    "put", "put n", "put n x", "put n x a", "put n x a x x", "put N x a x", "put n X a x", "put n x a X", "put n  a x",
    "put n x  x", "put n x a ", "put n x a  x", "put abcdefghi x a x", "put n x a abcdefghi", "put n x1 a x",
    "turn", "turn n", "turn n x x", "turn N x", "turn n X", "turn n ", "turn  x", "turn n  x", "turn n abcdefghi",
    "short", "short n", "short n x x", "short N x", "short n X", "short n x ", "show", "show ", "show X", "show x x",
    "show x ", "show  x", "show abcdefghi", "show 1", "below", "below x", "below x x x", "below x X", "below X x",
    "below x ", "below  x", "below x  x", "alike", "alike x", "alike x x x", "alike x X", "break", "break x",
    "break x x x", "break x X", "worth", "worth x", "worth x ", "worth x X", "worth X n", "worth x n ", "worth x n 0 ",
    "worth x n  0", "worth x  0", "lives", "lives N", "lives n n", "lives ", "steps", "steps N", "steps n n",
    "steps n ",
    "ok", "none", "x", "x a", "say x", "keep x a", "bar n", "worths x n 0", "(a|b)", "names\n", "show x\n", "a" * 2000,
)


class RefusalsTest(unittest.TestCase):
    def desk(self):
        return desk_with(x="a", y=read_back("(a|(b&c))"), great=wide_word(12), n=SIDE, three=THREE, cross=(1, 2),
                         many=chain(11), most=chain(16), ten=chain(10), wide=tuple(1 << k for k in range(16)))

    def check(self, desk, row, refusal):
        before = all_that_stands(desk)
        with self.assertRaises(WordError, msg=row) as caught:
            desk.say(row)
        self.assertIs(type(caught.exception), refusal, row)
        self.assertEqual(all_that_stands(desk), before)

    def test_no_row(self):
        desk = self.desk()
        for row in NO_ROWS + (within("names", 29, lambda inner: [inner]), 10 ** 59, ["names"] * 1999):
            self.check(desk, row, NoRow)
            self.assertRaises(NoRow, Desk().say, row)

    def test_no_name(self):
        desk = self.desk()
        for row in ("show q", "show a", "turn n q", "turn x q", "short n q", "below x q", "below q x", "alike q x",
                    "alike x q", "break x q", "break q x", "put n q a x", "put n x a q", "worth q n 0", "worth x q 0",
                    "lives q", "steps q", "lives x", "steps x", "steps great", "short q n", "below x n", "below n x",
                    "alike n n", "break n x", "break x n", "put q n a x", "put q x a n", "worth n n 0", "worth x x 0",
                    "worth n x 0", "worth x y 0", "short n three", "show abcdefgh"):
            self.check(desk, row, NoName)

    def test_no_text(self):
        desk = self.desk()
        for row in ("word x (a|b", "word x ()", "word q ab", "word q A", "word q 0,1", "order x a", "order x 1",
                    "order x 0,1", "order q 0  1", "order q  0", "order q 0 ", "order q  ", "order q 0,1 1 ",
                    "order q x y",
                    "order q 0, 1 1", "order x   ", "put q x ab x", "put q x A x", "put q x 1 x", "put q x (a|b) x",
                    "put q x ~ x", "worth x n", "worth x n 5", "worth x n 0 0", "worth x n 00", "worth x n 01",
                    "worth x n -1",
                    "worth x n +1", "worth x n a", "worth x n 1.0", "worth x n 1,", "worth y n 0 0",
                    "worth y n 0 0 0 0",
                    "worth y n 0 0 5", "worth y n 5 0 0", "worth y n 0 x 0", "worth x most 16",
                    "worth x n " + "9" * 1900,
                    "word q " + "(a|" * 31 + "b" + ")" * 31, "word q " + "(" * 1900):
            self.check(desk, row, NoText)
        self.assertEqual(desk.say("worth x most 15"), "15")

    def test_no_room(self):
        desk = self.desk()
        thirteen = plain_text(wide_word(13))
        for row in (f"word x {thirteen}", f"word q {thirteen}", f"order x {order_by_text(chain(17))}",
                    "order q " + " ".join(str(k) for k in range(17)), "put q great a y", "put great great a great",
                    "put x y c great", "lives many", "steps many", "lives most", "steps most", "lives ten",
                    "word q " + plain_text(within("a", 20, lambda inner: ("up", inner, "b")))):
            self.check(desk, row, NoRoom)
        self.assertEqual(desk.say("steps ten"), " ".join(["0"] * 10))
        self.assertEqual(desk.say("put q great k y"), "ok")
        self.assertEqual(desk.say("word q " + plain_text(deep_word(12))), "ok")

    def test_a_word_of_twelve_places_and_no_more(self):
        desk = desk_with(x=wide_word(11), y=read_back("(p|q)"), z=read_back("(p|q|r)"))
        self.assertEqual(desk.say("put q x b y"), "ok")
        self.assertEqual(desk.say("show q"), "(a|(p|q)|c|d|e|f|g|h|i|j|a)")
        self.check(desk, "put q x b z", NoRoom)
        self.check(desk, "put q x a y", NoRoom)

    def test_what_the_functions_refuse(self):
        desk = self.desk()
        for row, refusal in (
            ("lives cross", NoFull), ("steps cross", NoFull), ("worth x cross 0", NoFull),
            ("worth y cross 0 1 0", NoFull),
            ("lives wide", NoFull), ("steps wide", NoFull), ("worth x wide 15", NoFull), ("steps three", NoEnd),
            ("lives many", NoRoom), ("steps many", NoRoom), ("break great x", NoRoom),
        ):
            self.check(desk, row, refusal)
        self.assertEqual(desk.say("break x great"), "none")

    def test_the_first_refusal_that_is_due(self):
        desk = self.desk()
        thirteen = plain_text(wide_word(13))
        for row, refusal in (
            # NoRow ahead of all.
            ("word X (a|", NoRow), (f"word X {thirteen}", NoRow), ("put N q ab q", NoRow), ("put n q ab Q", NoRow),
            ("show Q", NoRow), ("worth q Q x", NoRow), ("worth q q  ", NoRow), ("below q Q", NoRow),
            ("order X a", NoRow),
            # NoName ahead of NoText, NoRoom and what the functions refuse.
            ("put q q ab x", NoName), ("put q x ab q", NoName), ("worth x q", NoName), ("worth q n", NoName),
            ("worth x x a", NoName), ("worth q cross 9", NoName), ("put q great a n", NoName), ("steps great", NoName),
            # NoText ahead of NoRoom and what the functions refuse.
            ("put q great ab great", NoText), ("worth x cross", NoText), ("worth x cross 2", NoText),
            ("worth x wide 16", NoText), ("worth great wide 0", NoText),
            ("word q " + "(a|" * 31 + "b" + ")" * 31, NoText), ("order q " + order_by_text(chain(17)) + ",17", NoText),
            ("order q " + order_by_text(chain(17))[2:], NoText),
            # NoFull ahead of NoRoom in what the functions refuse.
            ("lives wide", NoFull), ("steps wide", NoFull),
        ):
            self.check(desk, row, refusal)

    def test_what_is_refused_changes_nothing(self):
        desk = Desk()
        for row in ("word x (a|", "order x 1", f"word x {plain_text(wide_word(13))}", "turn x x", "put x x a x",
                    "show x"):
            self.assertRaises(WordError, desk.say, row)
            self.assertEqual(desk.say("names"), "none")
        self.assertEqual(desk.say("word x (a|b)"), "ok")
        for row in ("word x (a|", "order x 1", f"word x {plain_text(wide_word(13))}", "turn x y", "put x x ab x",
                    "short x y", "order x  0"):
            self.assertRaises(WordError, desk.say, row)
            self.assertEqual(desk.say("show x"), "(a|b)")


class Model:
    """Point 26 said out of the document: what a desk answers, or which class it refuses with."""

    def __init__(self):
        self.kept = {}

    def say(self, row):
        found = [(name, re.fullmatch(form, row)) for name, form in FORMS.items()]
        found = [(name, match.groups()) for name, match in found if match]
        if not found:
            return NoRow
        (name, parts), = found
        return getattr(self, "say_" + name)(*parts)

    def word(self, name):
        return self.kept.get(name) if not isinstance(self.kept.get(name, (0,))[0], int) else None

    def order(self, name):
        return self.kept.get(name) if isinstance(self.kept.get(name, "a")[0], int) else None

    def keep(self, name, thing):
        if isinstance(thing[0], int):
            if len(thing) > 16:
                return NoRoom
        elif sum(sign.isalpha() for sign in plain_text(thing)) > 12:
            return NoRoom
        self.kept[name] = thing
        return "ok"

    def say_word(self, name, text):
        try:
            word = read_back(text)
        except (AssertionError, IndexError, KeyError):
            return NoText
        return self.keep(name, word) if plain_text(word) == text and set(text) <= set("abcdxyz()|&") else NoText

    def say_order(self, name, text):
        if not re.fullmatch(r"[0-9]+([ ,][0-9]+)*", text):
            return NoText
        rows = [[int(number) for number in row.split(",")] for row in text.split(" ")]
        order = tuple(sum(1 << number for number in set(row)) for row in rows)
        above = [set(row) for row in rows]
        fits = all(at in row and row <= set(range(len(rows))) for at, row in enumerate(above))
        fits = fits and all(above[m] <= row and (m == at or at not in above[m])
                            for at, row in enumerate(above) for m in row)
        return self.keep(name, order) if fits and order_by_text(order) == text else NoText

    def say_put(self, new, name, letter, other):
        if self.word(name) is None or self.word(other) is None:
            return NoName
        if not re.fullmatch("[a-z]", letter):
            return NoText
        return self.keep(new, read_back(plain_text(self.word(name)).replace(letter, plain_text(self.word(other)))))

    def say_turn(self, new, name):
        if name not in self.kept:
            return NoName
        if self.order(name):
            return self.keep(new, turned_by_looking(self.order(name)))
        return self.keep(new, read_back(plain_text(self.word(name)).translate(str.maketrans("|&", "&|"))))

    def say_short(self, new, name):
        return NoName if self.word(name) is None else self.keep(new, short_of(self.word(name)))

    def say_show(self, name):
        if name not in self.kept:
            return NoName
        return order_by_text(self.order(name)) if self.order(name) else plain_text(self.word(name))

    def say_below(self, name, other):
        if self.word(name) is None or self.word(other) is None:
            return NoName
        return "yes" if below_by_rules(self.word(name), self.word(other)) else "no"

    def say_alike(self, name, other):
        told = [self.say_below(name, other), self.say_below(other, name)]
        return NoName if NoName in told else min(told)

    def say_break(self, name, other):
        told = self.say_below(name, other)
        return NoName if told is NoName else "none" if told == "yes" else lambda text: breaks_it(
            self.word(name), self.word(other), read_break(text))

    def say_worth(self, name, other, things):
        word, order = self.word(name), self.order(other)
        if word is None or order is None:
            return NoName
        things = things.split(" ")[1:]
        names = [str(number) for number in range(len(order))]
        if len(things) != len(letters_in(word)) or not set(things) <= set(names):
            return NoText
        if lack_by_looking(order) is not None:
            return NoFull
        choice = dict(zip(sorted(letters_in(word)), [int(thing) for thing in things]))
        return str(worth_by_looking(order, word, choice))

    def say_lives(self, name):
        order = self.order(name)
        if order is None:
            return NoName
        if lack_by_looking(order) is not None:
            return NoFull
        if len(order) > 8:
            return NoRoom
        return lambda text: text.partition(" ")[0] == ("no" if bar_of(order) else "yes")

    def say_steps(self, name):
        order = self.order(name)
        if order is None:
            return NoName
        if lack_by_looking(order) is not None:
            return NoFull
        try:
            return " ".join(str(number) for number in steps_down(order))
        except WordError as refusal:
            return type(refusal)

    def say_names(self):
        return " ".join(sorted(self.kept)) or "none"


WORDS = ("a", "(a|b)", "(b&(a|c))", "((a|b)&(x|y))", "(a|b|c|d|x|y)", "(a|b", "ab", "()", "(a|b&c)", "0,1 1")
ORDERS = ("0", "0,1 1", "0 1", "0,1,2,3 1,3 2,3 3", order_by_text(SIDE), order_by_text(THREE), order_by_text(chain(9)),
          "0,1 0", "0,1", " 0", "a", "0,1,2 1,2 2 ")
BEHIND = {
    "word": "wt", "order": "oT", "put": "wwlw", "turn": "ee", "short": "ww", "show": "e", "below": "ww", "alike": "ww",
    "break": "ww", "worth": "wo", "lives": "o", "steps": "o", "names": "", "other": "w",
}


def chance_part(chance, kind):
    """A word of a row: a name of a word, of an order or of either, a letter, a text."""
    if kind in "tT":
        return chance.choice(WORDS if kind == "t" else ORDERS)
    if kind == "l":
        return chance.choice("aabbcx" + "A") if chance.random() < 0.9 else "ab"
    if chance.random() < 0.1:
        return chance.choice(("X", "x1", "abcdefghi", "q", "abcdefgh", "x", "n"))
    return chance.choice({"w": "xyz", "o": "nm", "e": "xyznm"}[kind])


def chance_row(chance):
    """A row, well made or not."""
    first = chance.choice(("word", "order", *BEHIND))
    parts = [chance_part(chance, kind) for kind in BEHIND[first]]
    if first == "worth":
        parts += chance.choices("0001123x", k=chance.choice((0, 1, 2, 2, 3, 3, 3, 4)))
    if chance.random() < 0.05:
        parts.insert(chance.randint(0, len(parts)), chance.choice(("", "x", "0")))
    return " ".join([first, *parts])


class ModelTest(unittest.TestCase):
    def test_rows_by_chance(self):
        chance = random.Random(27)
        seen = {}
        for k in range(100):
            # Two desks in turn, so that one would show what the other one was told.
            desks = [(Desk(), Model()), (Desk(), Model())]
            for m in range(120):
                row = chance_row(chance)
                desk, model = desks[m % 3 % 2]
                wanted = model.say(row)
                try:
                    told = desk.say(row)
                except WordError as refusal:
                    told = type(refusal)
                if callable(wanted) and not isinstance(wanted, type):
                    self.assertTrue(wanted(told), row)
                else:
                    self.assertEqual(told, wanted, row)
                kind = wanted if isinstance(wanted, type) else row.split(" ")[0]
                seen[kind] = seen.get(kind, 0) + 1
                self.assertEqual(all_that_stands(desk) == "none", not model.kept)
        self.assertLessEqual({*FORMS, NoRow, NoName, NoText, NoRoom, NoFull, NoEnd}, set(seen))
        self.assertGreater(min(seen.values()), 15, seen)


if __name__ == "__main__":
    unittest.main()
