"""Points 2 and 3, over the modules: what they tell fits together, and nothing hangs on what was asked before."""

import itertools
import unittest

from eitherboth.among import bar_of, bar_stands, words_for, words_stand
from eitherboth.below import is_below
from eitherboth.breaks import break_of, break_stands
from eitherboth.desk import Desk
from eitherboth.errors import NoEnd, NoFull, NoRoom, WordError
from eitherboth.likeness import four_words, like_letters
from eitherboth.narrow import all_books, book_of, picture_of, share_break, shares_out, shifts
from eitherboth.orders import first_lack, is_order, made_by, order_turned, up_of, worth_of
from eitherboth.rounds import greatest_words, least_words, round_words
from eitherboth.rows import hanging_pairs, least_rows, ring_of, single_things, steps_down
from eitherboth.shortest import are_alike, is_short, short_of
from eitherboth.texts import order_text, read_order, read_word
from eitherboth.ways import way_of, way_stands
from eitherboth.words import is_word, letters_of, parts_of, places_of, put_in, text_of, word_turned
from samples import (
    CROSS, SIDE, THREE, below_by_rules, breaks_it, chain, every_full_order, flat, full_orders, great_words, letters_in,
    only_told_kinds, own_choice, plain_text, sets_order, small_full_orders, small_words, turned_by_looking, walks,
    word_pairs, word_parts, worth_by_looking,
)


def told_of(one, other):
    """What is told of two words: whether the one is below the other, a way, a break or NoRoom itself."""
    try:
        told = break_of(one, other)
    except NoRoom:
        told = NoRoom
    return is_below(one, other), way_of(one, other), told


class TogetherTest(unittest.TestCase):
    def check(self, one, other):
        below, way, told = told_of(one, other)
        if below:
            self.assertTrue(walks(one, other, way))
            self.assertIs(way_stands(one, other, way), True)
            self.assertIsNone(told)
            return "way"
        self.assertIsNone(way)
        if told is NoRoom:
            return "room"
        order, choice = told
        self.assertIs(break_stands(one, other, told), True)
        self.assertIs(is_order(order), True)
        self.assertIsNone(first_lack(order))
        self.assertIsNone(first_lack(order_turned(order)))
        low, high = worth_of(order, one, choice), worth_of(order, other, choice)
        self.assertFalse(order[low] >> high & 1)
        return "break"

    def test_pairs_both_ways_about(self):
        kinds = set()
        for one, other in word_pairs(120, 31) + word_pairs(40, 32, "abcdefghijkl"):
            kinds |= {self.check(one, other), self.check(other, one)}
        self.assertEqual(kinds, {"way", "break", "room"})

    def test_small_and_great_words(self):
        for one, other in itertools.product(small_words()[::40], great_words()[::8]):
            self.check(one, other)
            self.check(other, one)

    def test_what_the_lookers_let_by_is_so_of_no_pair_both(self):
        pairs = word_pairs(12, 33, "abc")
        ways = [way for way in (way_of(one, other) for one, other in pairs) if way is not None]
        breaks = [told for told in (told_of(one, other)[2] for one, other in pairs) if told not in (None, NoRoom)]
        breaks = [told for told in breaks if len(told[0]) < 40]
        self.assertTrue(ways and breaks)
        for one, other in pairs:
            shown = [way for way in ways if way_stands(one, other, way)]
            broken = [told for told in breaks if break_stands(one, other, told)]
            self.assertFalse(shown and broken)
            self.assertTrue(is_below(one, other) or not shown)
            self.assertFalse(is_below(one, other) and broken)

    def test_asked_of_another_pair_between(self):
        pairs = word_pairs(12, 34)
        for (one, other), (low, high) in zip(pairs, pairs[1:]):
            for asked in ((one, other), (low, high), (one, other), (other, one), (one, other)):
                self.check(*asked)

    def test_lookers_asked_of_another_pair_between(self):
        pairs = word_pairs(12, 35, "abc")
        things = [way_of(one, other) or told_of(one, other)[2] for one, other in pairs]
        for at, (one, other) in enumerate(pairs):
            for thing in (things[at], things[at - 1], things[at]):
                self.assertIs(way_stands(one, other, thing), walks(one, other, thing))
                if thing is not NoRoom and (thing[0] == "same" or len(thing[0]) < 60):
                    self.assertIs(break_stands(one, other, thing), breaks_it(one, other, thing))

    def test_what_is_handed_in_stays(self):
        for one, other in word_pairs(10, 36):
            before = repr((one, other))
            told_of(one, other)
            self.assertEqual(repr((one, other)), before)


class ShortestFormTest(unittest.TestCase):
    def test_two_words_are_alike_just_where_their_shortest_forms_are_the_same(self):
        kinds = set()
        for one, other in word_pairs(60, 37, "abc"):
            for low, high in ((one, other), (one, ("up", one, ("down", one, other))), (one, ("up", one, other))):
                same = short_of(low) == short_of(high)
                self.assertIs(are_alike(low, high), same)
                self.assertIs(is_below(low, high) and is_below(high, low), same)
                kinds.add(same)
        self.assertEqual(kinds, {True, False})

    def test_the_shortest_form_has_the_same_worth(self):
        orders = [order for order in small_full_orders(6) if len(order) > 3]
        for at, (one, other) in enumerate(word_pairs(20, 38, "abc")):
            order = orders[at % len(orders)]
            choice = tuple((letter, (at * k + k) % len(order)) for k, letter in enumerate("abc", 2))
            for word in (one, other):
                self.assertEqual(worth_of(order, word, choice), worth_of(order, short_of(word), choice))

    def test_ways_and_breaks_of_shortest_forms(self):
        for one, other in word_pairs(15, 39, "abc"):
            low, high = short_of(one), short_of(other)
            self.assertIs(is_below(low, high), is_below(one, other))
            way = way_of(low, high)
            self.assertEqual(way is not None, is_below(one, other))
            self.assertTrue(way is None or walks(low, high, way))


class SharingTest(unittest.TestCase):
    def test_an_order_shares_out_or_shifts_or_holds_a_picture(self):
        for order in small_full_orders(7) + [order for order in full_orders() if len(order) <= 16]:
            told = picture_of(order)
            wanted = None if shares_out(order) else "three" if shifts(order) else "side"
            self.assertEqual(told if told is None else told[0], wanted)

    def test_what_is_below_is_so_in_sharing_orders(self):
        for one, other in word_pairs(40, 40, "abcd"):
            told = share_break(one, other)
            if told is None:
                for order in (chain(3), sets_order(2)):
                    choice = tuple((letter, at % len(order)) for at, letter in enumerate("abcd", 1))
                    low, high = worth_of(order, one, choice), worth_of(order, other, choice)
                    self.assertTrue(order[low] >> high & 1)
                continue
            self.assertIs(is_below(one, other), False)
            self.assertNotEqual(book_of(one), book_of(other))
            choice = tuple((letter, int(letter in told)) for letter in "abcd")
            self.assertIs(break_stands(one, other, ((3, 2), choice)), True)


def words_told_of(order):
    """All words that 20, 21 and 23 tell of a full order, the greater ones ahead."""
    told = []
    for number in range(7):
        try:
            told += round_words(order, number)
        except NoRoom:
            break
    for function in (least_words, greatest_words, words_for):
        try:
            told += function(order) or ()
        except NoEnd:
            continue
    return sorted(set(told), key=lambda word: (-places_of(word), plain_text(word)))


class ToldWordsTest(unittest.TestCase):
    """Point 4: words that were told are handed in again, whatever their places."""

    def test_told_words_are_handed_in_again(self):
        most = 0
        for order in every_full_order(7)[::6] + every_full_order(8)[::24] + [SIDE, THREE]:
            words = words_told_of(order)
            most = max(most, places_of(words[0]))
            choice = tuple(own_choice(order).items())
            for word in words[:12:3]:
                self.assertIs(is_word(word), True)
                self.assertEqual(letters_of(word), tuple(sorted(letters_in(word))))
                self.assertEqual(parts_of(word), tuple(sorted(word_parts(word), key=plain_text)))
                self.assertEqual([text_of(word), read_word(text_of(word))], [plain_text(word), word])
                self.assertEqual(word_turned(word_turned(word)), word)
                self.assertEqual(put_in(word, tuple((letter, letter) for letter in "abcdefgh")), word)
                self.assertEqual(worth_of(order, word, choice), worth_by_looking(order, word, dict(choice)))
                self.assertEqual([is_short(word), short_of(word)], [True, word])
                more = put_in(word, (("a", word),))
                self.assertEqual(short_of(more), short_of(("up", more, more)))
        self.assertGreater(most, 70)

    def test_ways_between_told_words(self):
        for order in every_full_order(7)[::9] + every_full_order(8)[::40] + [SIDE, THREE]:
            words = words_told_of(order)
            for one, other in itertools.product(words[:10:3] + words[-2:], repeat=2):
                way = way_of(one, other)
                self.assertIs(is_below(one, other), below_by_rules(one, other))
                self.assertEqual(way is not None, is_below(one, other))
                if way is not None:
                    self.assertTrue(walks(one, other, way))
                    self.assertIs(way_stands(one, other, way), True)
                    self.assertTrue(only_told_kinds(way))

    def test_parts_of_told_words(self):
        for word in words_told_of(every_full_order(7)[30])[:3]:
            for part in parts_of(word):
                self.assertEqual(short_of(part), part)
                self.assertEqual(read_word(text_of(part)), part)


class AmongTest(unittest.TestCase):
    def test_of_every_full_order_either_words_or_a_bar(self):
        for order in small_full_orders(8):
            words, bar = words_for(order), bar_of(order)
            self.assertEqual(words is None, bar is not None)
            if bar is None:
                self.assertIs(words_stand(order, words), True)
                self.assertIsNone(ring_of(order))
                self.assertIsNone(ring_of(order_turned(order)))
            else:
                self.assertIs(bar_stands(order, bar), True)

    def test_the_least_words_are_told_or_there_is_a_ring(self):
        for order in small_full_orders(7):
            if ring_of(order) is None:
                self.assertEqual(len(least_words(order)), len(order))
            else:
                self.assertRaises(NoEnd, least_words, order)

    def test_turned_over(self):
        for order in small_full_orders(7):
            turned = turned_by_looking(order)
            self.assertEqual(bar_of(order) is None, bar_of(turned) is None)
            words = words_for(order)
            if words is not None:
                self.assertIs(words_stand(turned, tuple(word_turned(word) for word in words)), True)


ORDER_FUNCTIONS = (
    first_lack, order_turned, is_order, shares_out, shifts, single_things, hanging_pairs, steps_down, least_words,
    greatest_words, order_text, lambda order: up_of(order, 0, len(order) - 1), lambda order: least_rows(order, 0),
    lambda order: made_by(order, (0, len(order) - 1)), lambda order: round_words(order, 2),
    lambda order: bar_of(order) is None, lambda order: words_for(order) is None,
    lambda order: picture_of(order) is None, lambda order: ring_of(order) is None,
)
WORD_FUNCTIONS = (
    is_word, places_of, letters_of, parts_of, text_of, word_turned, is_short, short_of, book_of,
    lambda word: is_below(word, "a"), lambda word: way_of("a", word) is None,
    lambda word: are_alike(word, ("up", "a", "b")),
    lambda word: like_letters((word, "a", "b")), lambda word: share_break("a", word) is None, lambda word: four_words(),
    lambda word: all_books(len(letters_of(word)) % 3 + 1), lambda word: read_word(text_of(word)),
    lambda word: read_order(order_text(chain(places_of(word)))),
)


def told_or_refused(function, thing):
    """What a function tells of a thing, or the class that it refuses it with."""
    try:
        return function(thing)
    except WordError as refusal:
        return type(refusal)


class AskedBeforeTest(unittest.TestCase):
    """Point 2: nothing hangs on what was asked before."""

    def check(self, functions, things):
        firsts = [told_or_refused(function, thing) for function in functions for thing in things]
        turned = [told_or_refused(function, thing) for thing in reversed(things) for function in reversed(functions)]
        again = [told_or_refused(function, thing) for function in functions for thing in things]
        self.assertEqual(again, firsts)
        self.assertEqual(sorted(turned, key=repr), sorted(firsts, key=repr))
        for told in firsts:
            self.assertTrue(isinstance(told, type) or only_told_kinds(told))
        return firsts

    def test_orders(self):
        orders = small_full_orders(5) + [CROSS, chain(11), chain(16), flat(6), (1, 2), SIDE, THREE, sets_order(3)]
        before = repr(orders)
        told = self.check(ORDER_FUNCTIONS, orders)
        self.assertLessEqual({NoFull, NoRoom, NoEnd}, {one for one in told if isinstance(one, type)})
        self.assertEqual(repr(orders), before)

    def test_words(self):
        words = great_words()[::8] + small_words()[:20]
        before = repr(words)
        self.check(WORD_FUNCTIONS, words)
        self.assertEqual(repr(words), before)

    def test_a_desk_hangs_on_its_own_deeds_alone(self):
        rows = ("word x (a|b)", "order n 0,1 1", "lives n", "steps n", "below x x", "short y x", "names", "show y", "x")
        firsts = [told_or_refused(Desk().say, row) for row in rows]
        desk = Desk()
        for row in rows:
            told_or_refused(desk.say, row)
        self.assertEqual([told_or_refused(Desk().say, row) for row in rows], firsts)


if __name__ == "__main__":
    unittest.main()
