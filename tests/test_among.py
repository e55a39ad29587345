"""Points 22 and 23: bars, and words that form an order among the words."""

import copy
import itertools
import unittest

from eitherboth.among import bar_of, bar_stands, words_for, words_stand
from eitherboth.errors import NoFull, NoRoom
from eitherboth.words import put_in, word_turned
from samples import (
    CROSS, CROSS_BARE, SIDE, THREE, Table, alike_words, bar_forms, bars, chain, every_full_order, flat,
    forms_by_looking, is_bar_by_looking, looks_short, one_change, only_told_kinds, order_of, other_orders,
    points_and_lines, product, read_back, renumbered, sets_order, small_full_orders, turned_by_looking, within,
)

# A bar by "four" and no other: 3 is the least above of 1 and 2 and the greatest below of 4 and 5.
HOUR_GLASS = order_of(7, [(0, 1), (0, 2), (1, 3), (2, 3), (3, 4), (3, 5), (4, 6), (5, 6)])
ANY_THINGS = (
    None, True, False, 0, 1, -1, 10 ** 59, "", "a", "up", "four", (), [], ("up",), ("up", 0), ("up", 0, 0), ("four",),
    ("up", 1, 2, 3, 0), ("four", 1, 2, 3), ("up", True, 2, 3), ("up", 1, 2, True), ("up", 1, 2, "3"),
    ("up", 1, 2, None),
    ("up", 1, 2, -2), ("up", 1, 2, 99), ("up", 1, 2, 10 ** 59), ["up", 1, 2, 3], ("up", [1], 2, 3), ("up", (1, 2, 3)),
    ("Up", 1, 2, 3), ("u", 1, 2, 3), (0, 1, 2, 3), (None, 1, 2, 3), (("up",), 1, 2, 3), ("up ", 1, 2, 3),
    (["up"], 1, 2, 3), (True, 1, 2, 3), ("four", 1, 2, 3, True), ("four", 1, 2, 3, 99), ("four", 1, 2, 3, 4, 0),
    (("up", 1, 2, 3),), "up 1 2 3", ("down", 1, 2), ("three", 1, 2, 3), ("a", "b", "c"), (1, 2, 3), (1, 2, 3, 4, 5),
    ("side", 0, 1, 2, 3, 4), ("up", 1, 2, 3, 4, 0), ("down", 1, 2, 3, 0, 0),
)
ASKED = (
    bar_of, words_for, lambda order: bar_stands(order, ("up", 0, 0, 0)), lambda order: bar_stands(order, None),
    lambda order: words_stand(order, ("a",)), lambda order: words_stand(order, [None]),
)


def sample_orders():
    """Full orders of up to eight things, and all turned over."""
    orders = small_full_orders(7) + small_full_orders(8)[-222::4]
    orders += [HOUR_GLASS, sets_order(3), product(chain(4), chain(2)), flat(6), chain(8)]
    return orders + [turned_by_looking(order) for order in orders[::2]]


def has_bar(table):
    """True where some tuple of the three forms is a bar."""
    return any(bars(table, thing) for thing in bar_forms(len(table.order)))


class BarsTest(unittest.TestCase):
    def test_by_hand(self):
        for order in (chain(1), chain(2), chain(8), SIDE, sets_order(2), sets_order(3), turned_by_looking(SIDE)):
            self.assertIsNone(bar_of(order))
        self.assertIn(bar_of(THREE)[0], ("up", "down"))
        for name, things in itertools.product(("up", "down"), itertools.permutations((1, 2, 3))):
            self.assertIs(bar_stands(THREE, (name, *things)), True)
        self.assertIs(bar_stands(THREE, ("up", 1, 2, 2)), False)
        self.assertEqual(bar_of(HOUR_GLASS)[0], "four")
        self.assertIs(bar_stands(HOUR_GLASS, ("four", 4, 5, 1, 2)), True)
        self.assertIs(bar_stands(HOUR_GLASS, ("four", 5, 4, 1, 2)), True)
        self.assertIs(bar_stands(HOUR_GLASS, ("four", 1, 2, 4, 5)), False)
        self.assertIs(bar_stands(HOUR_GLASS, ("four", 4, 5, 1, 3)), False)

    def test_told_bars(self):
        names = set()
        for order in sample_orders():
            table = Table(order)
            told = bar_of(order)
            if told is None:
                self.assertFalse(has_bar(table), order)
                continue
            self.assertTrue(is_bar_by_looking(table, told), (order, told))
            self.assertTrue(only_told_kinds(told))
            self.assertIs(bar_stands(order, told), True)
            names.add(told[0])
        self.assertIn("four", names)
        self.assertGreater(len(names), 1)

    def test_a_bar_of_one_form_alone(self):
        # Orders with a bar by "up" alone, by "down" alone and by "four" alone.
        seen = set()
        for order in small_full_orders(8):
            table = Table(order)
            names = {thing[0] for thing in bar_forms(len(order))[:2 * len(order) ** 3] if bars(table, thing)}
            if len(names) < 2:
                names |= {thing[0] for thing in bar_forms(len(order)) if thing[0] == "four" and bars(table, thing)}
                told = bar_of(order)
                self.assertEqual(told is None, not names)
                self.assertTrue(told is None or told[0] in names)
                seen.add(tuple(sorted(names)))
        self.assertLessEqual({(), ("up",), ("down",), ("four",)}, seen)

    def test_every_tuple_of_the_three_forms(self):
        for order in small_full_orders(6)[::2] + [HOUR_GLASS, SIDE, THREE]:
            table = Table(order)
            for thing in bar_forms(len(order)):
                self.assertIs(bar_stands(order, thing), bars(table, thing))

    def test_the_first_thing_and_the_last_one(self):
        # The three between are 0, 2 and 4 here, so that -1 would stand for the last one of them.
        order = renumbered(THREE, (1, 0, 2, 4, 3))
        for name, things in itertools.product(("up", "down"), itertools.permutations((0, 2, 4))):
            self.assertIs(bar_stands(order, (name, *things)), True)
            self.assertIs(bar_stands(order, (name, *[thing if thing != 4 else -1 for thing in things])), False)
            self.assertIs(bar_stands(order, (name, *[thing if thing != 0 else -5 for thing in things])), False)
            self.assertIs(bar_stands(order, (name, *[thing if thing != 0 else False for thing in things])), False)
            self.assertIs(bar_stands(order, (name, *[thing if thing != 0 else 5 for thing in things])), False)

    def test_any_things(self):
        for order in small_full_orders(5) + [HOUR_GLASS, flat(6)]:
            table = Table(order)
            for thing in ANY_THINGS:
                self.assertIs(bar_stands(order, thing), is_bar_by_looking(table, thing), (order, thing))

    def test_one_part_put_otherwise(self):
        stand = fall = 0
        for order in (THREE, HOUR_GLASS, flat(4), turned_by_looking(HOUR_GLASS)):
            table = Table(order)
            for thing in (bar_of(order), *[thing for thing in bar_forms(len(order))[::9] if bars(table, thing)]):
                for changed in one_change(thing, ("up", "down", "four", 0, 3)):
                    wanted = is_bar_by_looking(table, changed)
                    self.assertIs(bar_stands(order, changed), wanted, (order, changed))
                    stand, fall = stand + wanted, fall + (not wanted)
        self.assertGreater(stand, 50)
        self.assertGreater(fall, 1000)

    def test_deep_and_great_things(self):
        for thing in (within(("up", 1, 2, 3), 28, lambda inner: (inner,)), within([], 29, lambda inner: [inner]),
                      ("up",) + (1,) * 1990, [("up", 1, 2, 3)] * 400,
                      ("up", 1, 2, within(3, 27, lambda inner: (inner,)))):
            self.assertIs(bar_stands(THREE, thing), False)
            self.assertIs(words_stand(THREE, thing), False)


class WordsForTest(unittest.TestCase):
    def test_by_hand(self):
        self.assertTrue(forms_by_looking(chain(1), words_for(chain(1))))
        self.assertIsNone(words_for(THREE))
        self.assertIsNone(words_for(HOUR_GLASS))
        for order in (chain(2), chain(8), SIDE, turned_by_looking(SIDE), sets_order(2), sets_order(3)):
            self.assertTrue(forms_by_looking(order, words_for(order)))

    def test_none_just_where_there_is_a_bar(self):
        kinds = set()
        for order in sample_orders():
            told = words_for(order)
            self.assertEqual(told is None, has_bar(Table(order)), order)
            kinds.add(told is None)
            if told is not None:
                self.assertTrue(forms_by_looking(order, told), order)
                self.assertTrue(all(looks_short(word, {}) for word in told))
                self.assertTrue(only_told_kinds(told))
                self.assertIs(words_stand(order, told), True)
        self.assertEqual(kinds, {True, False})

    def test_all_full_orders_of_eight_things(self):
        many = 0
        for order in every_full_order(8):
            told = words_for(order)
            self.assertEqual(told is None, bar_of(order) is not None)
            if told is not None:
                self.assertIs(words_stand(order, told), True)
                many += 1
        self.assertGreater(many, 40)


class WordsStandTest(unittest.TestCase):
    def test_by_hand(self):
        square = order_of(4, [(0, 1), (0, 2), (1, 3), (2, 3)])
        self.assertIs(words_stand((1,), ("a",)), True)
        self.assertIs(words_stand((1,), (("up", "z", ("down", "a", "q")),)), True)
        self.assertIs(words_stand((3, 2), ("a", ("up", "a", "b"))), True)
        self.assertIs(words_stand((3, 2), (("up", "a", "b"), "a")), False)
        self.assertIs(words_stand((1, 3), (("up", "a", "b"), "a")), True)
        self.assertIs(words_stand((3, 2), ("a", "b")), False)
        self.assertIs(words_stand((3, 2), ("a", ("up", "a", "a"))), False)
        ab = (("down", "a", "b"), "a", "b", ("up", "b", "a"))
        self.assertIs(words_stand(square, ab), True)
        self.assertIs(words_stand(square, (("down", "b", "a", "a"), "a", "b", ("up", "b", ("up", "a", "b")))), True)
        self.assertIs(words_stand(square, (("down", "a", "b", "c"), "a", "b", ("up", "b", "a"))), False)
        self.assertIs(words_stand(square, (("down", "a", "b"), "a", "b", ("up", "b", "a", "c"))), False)
        self.assertIs(words_stand(square, (ab[3], "a", "b", ab[0])), False)
        self.assertIs(words_stand(square, (ab[0], "a", "a", ab[3])), False)
        self.assertIs(words_stand(square, ab[:3]), False)
        self.assertIs(words_stand(square, (*ab, "c")), False)

    def test_other_words_that_form_it(self):
        for order in sample_orders()[::3]:
            told = words_for(order)
            if told is None or len(order) > 7:
                continue
            spread = tuple(zip("abcdefgh", "hgzxedcp"))
            for other in (
                tuple(alike_words(word, 3, 5)[2] for word in told), tuple(put_in(word, spread) for word in told),
                tuple(("up", word, word) for word in told), tuple(("down", word, word, word) for word in told),
            ):
                self.assertTrue(forms_by_looking(order, other))
                self.assertIs(words_stand(order, other), True)
            turned = tuple(word_turned(word) for word in told)
            self.assertIs(words_stand(turned_by_looking(order), turned), True)
            self.assertIs(words_stand(order, turned), len(order) == 1 or forms_by_looking(order, turned))

    def test_words_of_other_orders(self):
        told = [(order, words_for(order)) for order in small_full_orders(6)]
        for (order, words), (other, others) in itertools.product(told, repeat=2):
            if others is not None and len(order) == len(other):
                self.assertIs(words_stand(order, others), forms_by_looking(order, others))

    def test_no_words_stand_where_there_is_a_bar(self):
        words = [read_back(text) for text in ("a", "b", "c", "(a|b)", "(a&b)", "(a|b|c)", "(a&b&c)")]
        for row in itertools.permutations(words, 5):
            self.assertIs(words_stand(THREE, row), False)

    def test_small_rows_of_words(self):
        texts = ("a", "b", "c", "(a|b)", "(b&a)", "(a|b|c)", "(a&b&c)", "(a&(b|c))", "(a|a)")
        words = [read_back(text) for text in texts]
        square = order_of(4, [(0, 1), (0, 2), (1, 3), (2, 3)])
        stand = 0
        for order in (chain(2), chain(3), square):
            for row in list(itertools.product(words, repeat=len(order)))[::2]:
                wanted = forms_by_looking(order, row)
                self.assertIs(words_stand(order, row), wanted)
                stand += wanted
        self.assertGreater(stand, 20)

    def test_one_part_put_otherwise(self):
        stand = fall = 0
        news = ("a", "b", "up", "down", ("up", "a", "b"), ("up", "a"))
        for order in [order for order in small_full_orders(5) if len(order) > 1]:
            told = words_for(order)
            if told is None:
                continue
            for changed in one_change(told, news):
                wanted = forms_by_looking(order, changed)
                self.assertIs(words_stand(order, changed), wanted, (order, changed))
                stand, fall = stand + wanted, fall + (not wanted)
        self.assertGreater(stand, 50)
        self.assertGreater(fall, 2000)

    def test_any_things(self):
        words = words_for(SIDE)
        for thing in ANY_THINGS + (
            list(words), words[0], (words,), words[:4], (*words, "a"), (*words[:4], [words[4]]), (*words[:4], None),
            (*words[:4], True), (*words[:4], 0), (*words[:4], ""), (*words[:4], ("up", "a")), (*words[:4], "ab"),
            (*words[:4], ("up", "a", ["down", "b", "c"])), " ".join("abcde"), "abcde", ("a", "b", "c", "d", "e"),
            (*words[:4], within("a", 25, lambda inner: ("up", inner, "b"))), (*words[:4], ("up",) + ("a",) * 1900),
        ):
            self.assertIs(words_stand(SIDE, thing), forms_by_looking(SIDE, thing), thing)

    def test_deep_and_great_words(self):
        deep = within("a", 14, lambda inner: ("down", ("up", inner, "b"), "c"))
        wide = ("up", *["abcdefghijklmnopqrstuvwxyz"[k % 26] for k in range(900)])
        for low, high in ((deep, ("up", deep, "z")), (("down", wide, "a"), wide), ("z", wide)):
            self.assertIs(words_stand((3, 2), (low, high)), True)
            self.assertIs(words_stand((1, 3), (low, high)), False)
            self.assertIs(words_stand((3, 2), (low, low)), False)


class RefusalsTest(unittest.TestCase):
    def test_no_full(self):
        orders = other_orders()
        self.assertTrue(any(len(order) > 8 for order in orders))
        for order in orders + [product(CROSS, chain(2)), product(CROSS_BARE, chain(4))]:
            for told in ASKED:
                self.assertRaises(NoFull, told, order)

    def test_no_room(self):
        orders = [chain(many) for many in range(9, 17)] + [flat(many) for many in range(7, 15)]
        orders += [sets_order(4), points_and_lines(), product(chain(3), chain(3)), product(chain(2), SIDE)]
        for order in orders:
            for told in ASKED:
                self.assertRaises(NoRoom, told, order)

    def test_a_class_of_its_own_each(self):
        for refusal, order in ((NoFull, CROSS), (NoRoom, chain(9))):
            for told in ASKED:
                with self.assertRaises(refusal) as caught:
                    told(order)
                self.assertIs(type(caught.exception), refusal)


class AskedAgainTest(unittest.TestCase):
    def test_same_after_another(self):
        orders = sample_orders()[::9] + [THREE, SIDE, HOUR_GLASS]
        kinds = []
        for order in orders + orders[::-1] + orders:
            bar, words = bar_of(order), words_for(order)
            self.assertEqual(bar is None, words is not None)
            self.assertTrue(bar is None or bar_stands(order, bar))
            self.assertTrue(words is None or words_stand(order, words))
            kinds.append(bar is None)
        self.assertEqual(kinds[:len(orders)], kinds[2 * len(orders):])

    def test_stays_as_it_was(self):
        things = [["up", 1, 2, 3], (["a"], "b"), [["up", "a", "b"]] * 2, ("a", ["up", "a", "b"])]
        before = copy.deepcopy(things)
        for thing in things:
            self.assertIs(bar_stands(THREE, thing), False)
            self.assertIs(words_stand((3, 2), thing), False)
        self.assertEqual(things, before)


if __name__ == "__main__":
    unittest.main()
