"""Points 2 and 3, over the modules: what they tell fits together, and nothing hangs on what was asked before."""

import itertools
import unittest

from eitherboth.below import is_below
from eitherboth.breaks import break_of, break_stands
from eitherboth.errors import NoRoom
from eitherboth.narrow import book_of, picture_of, share_break, shares_out, shifts
from eitherboth.orders import first_lack, is_order, order_turned, worth_of
from eitherboth.shortest import are_alike, short_of
from eitherboth.ways import way_of, way_stands
from samples import (
    breaks_it, chain, full_orders, great_words, sets_order, small_full_orders, small_words, walks, word_pairs,
)


def told_of(one, other):
    """What is told of two words: whether the one is below the other, a way, a break or NoRoom itself."""
    try:
        told = break_of(one, other)
    except NoRoom:
        told = NoRoom
    return is_below(one, other), way_of(one, other), told


class TogetherTest(unittest.TestCase):
    def check(self, one, other):
        below, way, told = told_of(one, other)
        if below:
            self.assertTrue(walks(one, other, way))
            self.assertIs(way_stands(one, other, way), True)
            self.assertIsNone(told)
            return "way"
        self.assertIsNone(way)
        if told is NoRoom:
            return "room"
        order, choice = told
        self.assertIs(break_stands(one, other, told), True)
        self.assertIs(is_order(order), True)
        self.assertIsNone(first_lack(order))
        self.assertIsNone(first_lack(order_turned(order)))
        low, high = worth_of(order, one, choice), worth_of(order, other, choice)
        self.assertFalse(order[low] >> high & 1)
        return "break"

    def test_pairs_both_ways_about(self):
        kinds = set()
        for one, other in word_pairs(120, 31) + word_pairs(40, 32, "abcdefghijkl"):
            kinds |= {self.check(one, other), self.check(other, one)}
        self.assertEqual(kinds, {"way", "break", "room"})

    def test_small_and_great_words(self):
        for one, other in itertools.product(small_words()[::40], great_words()[::8]):
            self.check(one, other)
            self.check(other, one)

    def test_what_the_lookers_let_by_is_so_of_no_pair_both(self):
        pairs = word_pairs(12, 33, "abc")
        ways = [way for way in (way_of(one, other) for one, other in pairs) if way is not None]
        breaks = [told for told in (told_of(one, other)[2] for one, other in pairs) if told not in (None, NoRoom)]
        breaks = [told for told in breaks if len(told[0]) < 40]
        self.assertTrue(ways and breaks)
        for one, other in pairs:
            shown = [way for way in ways if way_stands(one, other, way)]
            broken = [told for told in breaks if break_stands(one, other, told)]
            self.assertFalse(shown and broken)
            self.assertTrue(is_below(one, other) or not shown)
            self.assertFalse(is_below(one, other) and broken)

    def test_asked_of_another_pair_between(self):
        pairs = word_pairs(12, 34)
        for (one, other), (low, high) in zip(pairs, pairs[1:]):
            for asked in ((one, other), (low, high), (one, other), (other, one), (one, other)):
                self.check(*asked)

    def test_lookers_asked_of_another_pair_between(self):
        pairs = word_pairs(12, 35, "abc")
        things = [way_of(one, other) or told_of(one, other)[2] for one, other in pairs]
        for at, (one, other) in enumerate(pairs):
            for thing in (things[at], things[at - 1], things[at]):
                self.assertIs(way_stands(one, other, thing), walks(one, other, thing))
                if thing is not NoRoom and (thing[0] == "same" or len(thing[0]) < 60):
                    self.assertIs(break_stands(one, other, thing), breaks_it(one, other, thing))

    def test_what_is_handed_in_stays(self):
        for one, other in word_pairs(10, 36):
            before = repr((one, other))
            told_of(one, other)
            self.assertEqual(repr((one, other)), before)


class ShortestFormTest(unittest.TestCase):
    def test_two_words_are_alike_just_where_their_shortest_forms_are_the_same(self):
        kinds = set()
        for one, other in word_pairs(60, 37, "abc"):
            for low, high in ((one, other), (one, ("up", one, ("down", one, other))), (one, ("up", one, other))):
                same = short_of(low) == short_of(high)
                self.assertIs(are_alike(low, high), same)
                self.assertIs(is_below(low, high) and is_below(high, low), same)
                kinds.add(same)
        self.assertEqual(kinds, {True, False})

    def test_the_shortest_form_has_the_same_worth(self):
        orders = [order for order in small_full_orders(6) if len(order) > 3]
        for at, (one, other) in enumerate(word_pairs(20, 38, "abc")):
            order = orders[at % len(orders)]
            choice = tuple((letter, (at * k + k) % len(order)) for k, letter in enumerate("abc", 2))
            for word in (one, other):
                self.assertEqual(worth_of(order, word, choice), worth_of(order, short_of(word), choice))

    def test_ways_and_breaks_of_shortest_forms(self):
        for one, other in word_pairs(15, 39, "abc"):
            low, high = short_of(one), short_of(other)
            self.assertIs(is_below(low, high), is_below(one, other))
            way = way_of(low, high)
            self.assertEqual(way is not None, is_below(one, other))
            self.assertTrue(way is None or walks(low, high, way))


class SharingTest(unittest.TestCase):
    def test_an_order_shares_out_or_shifts_or_holds_a_picture(self):
        for order in small_full_orders(7) + [order for order in full_orders() if len(order) <= 16]:
            told = picture_of(order)
            wanted = None if shares_out(order) else "three" if shifts(order) else "side"
            self.assertEqual(told if told is None else told[0], wanted)

    def test_what_is_below_is_so_in_sharing_orders(self):
        for one, other in word_pairs(40, 40, "abcd"):
            told = share_break(one, other)
            if told is None:
                for order in (chain(3), sets_order(2)):
                    choice = tuple((letter, at % len(order)) for at, letter in enumerate("abcd", 1))
                    low, high = worth_of(order, one, choice), worth_of(order, other, choice)
                    self.assertTrue(order[low] >> high & 1)
                continue
            self.assertIs(is_below(one, other), False)
            self.assertNotEqual(book_of(one), book_of(other))
            choice = tuple((letter, int(letter in told)) for letter in "abcd")
            self.assertIs(break_stands(one, other, ((3, 2), choice)), True)


if __name__ == "__main__":
    unittest.main()
