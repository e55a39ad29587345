"""Points 7, 8 and 9: finite orders, their bounds, the worths of words, what some things make."""

import copy
import itertools
import random
import unittest

from eitherboth.breaks import break_of
from eitherboth.errors import NoFull, NoLetter
from eitherboth.orders import down_of, first_lack, is_order, made_by, order_turned, up_of, worth_of
from eitherboth.words import put_in, word_turned
from samples import (
    CROSS, CROSS_BARE, CROSS_HIGH, CROSS_LOW, DEEDS, SIDE, THREE, bound_by_looking, chain, chance_order, deep_word,
    flat, full_orders, great_words, is_full_at_once, lack_by_looking, letters_in, looks_like_order, one_change,
    only_told_kinds, order_of, other_orders, product, read_back, sets_order, small_words, wide_word, within,
    worth_by_looking,
)

FULL = full_orders()
OTHERS = other_orders()
# The order of the break of these two words has just three hundred things.
GREATEST = (read_back("(((e&c)&a)&(((c&a)|j)&f)&g)"), read_back("(d|d)"))
NO_ORDERS = (
    (), [], [1], [3, 2], None, True, False, 0, 1, 3, -1, "", "1", "0,1 1", (True,), (True, 2), (1, True), (3, True),
    (False,), ("1",), ("",), (None,), (None, 2), ((1,),), ([1],), ((3, 2),), ((3,), (2,)), (1, (2,)), (3, "2"),
    (0,), (2,), (3,), (-1,), (-2,), (1, 0), (0, 2), (2, 1), (3, 3), (3, 1), (2, 2), (1, 6), (5, 2), (1, -2), (-1, 2),
    (3, 2, 8), (9, 2, 4), (1, 2, 12), (10 ** 59,), (-10 ** 59, 2), (3, 6, 4), (7, 6, 6), (7, 7, 7), (3, 6, 5),
    (1, 2, 4, 8, 16, 0), (1, 2, 4, 8, 48),
)


def told_order():
    """An order of three hundred things."""
    return break_of(*GREATEST)[0]


def turned_by_looking(order):
    """An order turned over by point 7."""
    every = range(len(order))
    return tuple(sum(2 ** j for j in every if order[j] & 2 ** i) for i in every)


def makes_by_trying(order, things):
    """What some things make by point 9: what all sets have that have these and the bounds of each two of theirs."""
    every = range(len(order))
    bounds = {(k, m): {bound_by_looking(order, deed, k, m) for deed in DEEDS} for k in every for m in every}
    common = set(every)
    for many in range(len(order) + 1):
        for held in map(set, itertools.combinations(every, many)):
            if held >= set(things) and all(bounds[k, m] <= held for k in held for m in held):
                common &= held
    return tuple(sorted(common))


class IsOrderTest(unittest.TestCase):
    def test_orders(self):
        for order in FULL + OTHERS:
            self.assertIs(is_order(order), True)
        self.assertEqual({len(order) for order in OTHERS} | {len(order) for order in FULL} | {1}, set(range(1, 25)))

    def test_by_hand(self):
        for order in ((1,), (1, 2), (3, 2), (1, 3), (7, 6, 4), (1, 3, 7), (5, 6, 4), (7, 2, 4), (1, 3, 5)):
            self.assertIs(is_order(order), True)

    def test_other_things(self):
        for thing in NO_ORDERS:
            with self.subTest(thing=thing):
                self.assertIs(is_order(thing), False)

    def test_all_rows_of_three_numbers(self):
        for many in (1, 2, 3):
            rows = list(itertools.product(range(-2, 2 ** many + 3), repeat=many))
            self.assertEqual([row for row in rows if is_order(row)], [row for row in rows if looks_like_order(row)])

    def test_how_many_there_are(self):
        for many, wanted in ((1, 1), (2, 3), (3, 19), (4, 219)):
            rows = itertools.product(range(2 ** many), repeat=many)
            self.assertEqual(sum(is_order(row) for row in rows), wanted)

    def test_not_at_or_below_itself(self):
        for order in FULL + OTHERS:
            for thing in range(len(order)):
                without = order[:thing] + (order[thing] - (1 << thing),) + order[thing + 1:]
                self.assertIs(is_order(without), False)

    def test_two_at_or_below_one_another(self):
        for order in FULL + OTHERS:
            for low in range(len(order)):
                for high in range(len(order)):
                    if low != high and order[low] >> high & 1:
                        both = order[:high] + (order[low],) + order[high + 1:]
                        self.assertIs(is_order(both), False)

    def test_a_step_left_out(self):
        for order in (chain(3), chain(12), sets_order(3), product(CROSS, chain(4))):
            for low, row in enumerate(order):
                for high in range(len(order)):
                    between = [k for k in range(len(order)) if row >> k & 1 and order[k] >> high & 1]
                    if row >> high & 1 and len(between) > 2:
                        self.assertIs(is_order(order[:low] + (row - (1 << high),) + order[low + 1:]), False)

    def test_a_binary_part_from_n_on(self):
        for order in FULL + OTHERS:
            many = len(order)
            for thing in range(many):
                for more in (1 << many, 1 << many + 1, 1 << many + 70):
                    self.assertIs(is_order(order[:thing] + (order[thing] + more,) + order[thing + 1:]), False)
                self.assertIs(is_order(order[:thing] + (order[thing] - (1 << many),) + order[thing + 1:]), False)
                self.assertIs(is_order(order[:thing] + (-order[thing],) + order[thing + 1:]), False)

    def test_one_change(self):
        for order in (chain(1), chain(2), chain(4), (1, 2), SIDE, THREE, CROSS, CROSS_BARE, sets_order(3)):
            for thing in one_change(order, (True, 1, 2, 3)):
                self.assertIs(is_order(thing), looks_like_order(thing), thing)

    def test_lists(self):
        for order in FULL + OTHERS:
            self.assertIs(is_order(list(order)), False)
            self.assertIs(is_order((order,)), False)
            self.assertIs(is_order((list(order), *order[1:])), False)

    def test_thirty_deep(self):
        self.assertIs(is_order(within((), 29, lambda inner: (inner,))), False)
        self.assertIs(is_order(within([], 29, lambda inner: [inner])), False)
        self.assertIs(is_order(within((1,), 29, lambda inner: (inner,))), False)
        self.assertIs(is_order((1, within(2, 28, lambda inner: (inner,)))), False)

    def test_two_thousand_things(self):
        for thing in (0, 1, True, None, "a", 10 ** 60 - 1, -1, (), [1]):
            self.assertIs(is_order((thing,) * 1999), False)
        self.assertIs(is_order(tuple(range(1999))), False)
        self.assertIs(is_order(tuple(range(1, 2000))), False)
        self.assertIs(is_order((*[1 << k for k in range(199)], *[10 ** 60 - 1] * 1800)), False)
        self.assertIs(is_order("1" * 2000), False)

    def test_three_hundred_things(self):
        order = told_order()
        self.assertEqual(len(order), 300)
        self.assertIs(is_order(order), True)
        self.assertIs(is_order(order[:-1]), looks_like_order(order[:-1]))
        for at in range(0, 300, 7):
            for new in (True, order[at] - (1 << at), order[at] + (1 << 300), -order[at], order[at - 1], None, [1]):
                self.assertIs(is_order(order[:at] + (new,) + order[at + 1:]), False)
            for new in (order[at] ^ 1 << 150, order[at] ^ 1 << 299, order[at] & order[at - 1] | 1 << at):
                thing = order[:at] + (new,) + order[at + 1:]
                self.assertIs(is_order(thing), looks_like_order(thing))

    def test_stays_as_it_was(self):
        things = [[1], [3, 2], (3, [2]), ([3, 2],), (True, [[]]), SIDE]
        before = copy.deepcopy(things)
        first = [is_order(thing) for thing in things]
        self.assertEqual(first, [False] * 5 + [True])
        self.assertEqual([is_order(thing) for thing in things], first)
        self.assertEqual(things, before)


class TurnedTest(unittest.TestCase):
    def test_by_hand(self):
        self.assertEqual(order_turned((1,)), (1,))
        self.assertEqual(order_turned((7, 6, 4)), (1, 3, 7))
        self.assertEqual(order_turned((1, 2)), (1, 2))
        self.assertEqual(order_turned((5, 6, 4)), (1, 2, 7))
        self.assertEqual(order_turned(CROSS_LOW), (1, 3, 5, 15, 23))

    def test_each_two_things(self):
        for order in FULL + OTHERS + [told_order()]:
            self.assertEqual(order_turned(order), turned_by_looking(order))

    def test_twice(self):
        for order in FULL + OTHERS + [told_order()]:
            self.assertIs(is_order(order_turned(order)), True)
            self.assertEqual(order_turned(order_turned(order)), order)

    def test_kinds(self):
        for order in FULL + OTHERS:
            self.assertIs(type(order_turned(order)), tuple)
            self.assertTrue(only_told_kinds(order_turned(order)))


class FirstLackTest(unittest.TestCase):
    def test_by_hand(self):
        self.assertIsNone(first_lack((1,)))
        self.assertIsNone(first_lack((3, 2)))
        self.assertEqual(first_lack((1, 2)), ("up", 0, 1))
        self.assertEqual(first_lack(order_of(3, [(0, 1), (0, 2)])), ("up", 1, 2))
        self.assertEqual(first_lack(order_of(3, [(0, 2), (1, 2)])), ("down", 0, 1))
        self.assertEqual(first_lack(CROSS), ("up", 1, 2))
        self.assertEqual(first_lack(CROSS_LOW), ("up", 1, 2))
        self.assertEqual(first_lack(CROSS_HIGH), ("up", 0, 1))
        self.assertEqual(first_lack(order_turned(CROSS)), ("down", 1, 2))
        self.assertEqual(first_lack(CROSS_BARE), ("up", 0, 1))
        # Things 0 and 1 have their bounds, 0 and 3 lack the greatest below, 1 and 2 the least above.
        self.assertEqual(first_lack(order_of(4, [(0, 1), (0, 2), (3, 1)])), ("down", 0, 3))

    def test_full_orders(self):
        for order in FULL + [told_order()]:
            self.assertIsNone(first_lack(order))
            self.assertIsNone(first_lack(order_turned(order)))

    def test_other_orders(self):
        for order in OTHERS:
            self.assertEqual(first_lack(order), lack_by_looking(order))
            turned = order_turned(order)
            self.assertEqual(first_lack(turned), lack_by_looking(turned))

    def test_all_orders_of_four_things(self):
        orders = [row for row in itertools.product(range(16), repeat=4) if looks_like_order(row)]
        self.assertEqual([first_lack(order) for order in orders], [lack_by_looking(order) for order in orders])
        self.assertEqual(sum(first_lack(order) is None for order in orders), 36)

    def test_many_orders(self):
        chance = random.Random(3)
        for k in range(400):
            order = chance_order(chance, chance.randint(1, 16), chance.choice((0.2, 0.5, 0.8, 0.95)))
            self.assertEqual(first_lack(order), lack_by_looking(order))

    def test_both_deeds_and_both_ahead_of_the_other_are_among_them(self):
        lacks = [first_lack(order) for order in OTHERS]
        self.assertEqual({lack[0] for lack in lacks}, set(DEEDS))
        self.assertTrue(all(lack[1] < lack[2] and only_told_kinds(lack) for lack in lacks))

    def test_three_hundred_things_but_one(self):
        order = told_order()
        # Without its lowest thing the order is one still, and some two things have no greatest below.
        lowest = [k for k in range(300) if order[k] == 2 ** 300 - 1][0]
        kept = [k for k in range(300) if k != lowest]
        left = tuple(sum(1 << at for at, m in enumerate(kept) if order[k] >> m & 1) for k in kept)
        self.assertIs(is_order(left), True)
        self.assertFalse(is_full_at_once(left))
        deed, i, j = first_lack(left)
        self.assertEqual(deed, "down")
        self.assertIsNone(bound_by_looking(left, "down", i, j))
        self.assertEqual(first_lack(order_turned(left)), ("up", i, j))


class BoundsTest(unittest.TestCase):
    def test_by_hand(self):
        self.assertEqual((up_of((1,), 0, 0), down_of((1,), 0, 0)), (0, 0))
        self.assertEqual((up_of(SIDE, 1, 3), down_of(SIDE, 1, 3)), (4, 0))
        self.assertEqual((up_of(SIDE, 1, 2), down_of(SIDE, 1, 2)), (2, 1))
        self.assertEqual((up_of(THREE, 1, 2), down_of(THREE, 3, 2)), (4, 0))
        self.assertEqual((up_of(chain(24), 3, 20), down_of(chain(24), 3, 20)), (20, 3))
        self.assertEqual((up_of(sets_order(4), 5, 6), down_of(sets_order(4), 5, 6)), (7, 4))

    def test_every_two_things(self):
        for order in FULL:
            for one in range(len(order)):
                for other in range(len(order)):
                    up, down = up_of(order, one, other), down_of(order, one, other)
                    self.assertEqual(up, bound_by_looking(order, "up", one, other))
                    self.assertEqual(down, bound_by_looking(order, "down", one, other))
                    self.assertIs(type(up), int)
                    self.assertIs(type(down), int)

    def test_one_thing_twice(self):
        for order in FULL:
            for thing in range(len(order)):
                self.assertEqual((up_of(order, thing, thing), down_of(order, thing, thing)), (thing, thing))

    def test_other_way_about_and_turned_over(self):
        for order in FULL:
            turned = order_turned(order)
            for one, other in itertools.combinations(range(min(len(order), 8)), 2):
                self.assertEqual(up_of(order, one, other), up_of(order, other, one))
                self.assertEqual(down_of(order, one, other), down_of(order, other, one))
                self.assertEqual(up_of(order, one, other), down_of(turned, one, other))

    def test_no_full(self):
        for order in OTHERS:
            for one, other in ((0, 0), (0, 1), (1, 0), (len(order) - 1, 0)):
                for told in (up_of, down_of):
                    with self.assertRaises(NoFull):
                        told(order, one, other)

    def test_three_hundred_things(self):
        order = told_order()
        for one, other in ((0, 0), (1, 2), (17, 230), (299, 150), (44, 45), (299, 298)):
            for way_about in (order, order_turned(order)):
                self.assertEqual(up_of(way_about, one, other), bound_by_looking(way_about, "up", one, other))
                self.assertEqual(down_of(way_about, one, other), bound_by_looking(way_about, "down", one, other))


class WorthTest(unittest.TestCase):
    def test_by_hand(self):
        choice = (("a", 1), ("b", 2), ("c", 3))
        self.assertEqual(worth_of(SIDE, "a", choice), 1)
        self.assertEqual(worth_of(SIDE, ("up", "a", "c"), choice), 4)
        self.assertEqual(worth_of(SIDE, ("down", "a", "b", "c"), choice), 0)
        self.assertEqual(worth_of(SIDE, ("down", "b", ("up", "a", "c")), choice), 2)
        self.assertEqual(worth_of(SIDE, ("up", ("down", "b", "a"), ("down", "b", "c")), choice), 1)
        self.assertEqual(worth_of((1,), ("up", "a", "a"), (("a", 0),)), 0)

    def test_small_words(self):
        for order in (SIDE, THREE, chain(3), sets_order(2), FULL[-1]):
            for things in itertools.product(range(min(len(order), 5)), repeat=2):
                choice = tuple(zip("ab", things))
                for word in small_words()[:90]:
                    wanted = worth_by_looking(order, word, dict(choice))
                    self.assertEqual(worth_of(order, word, choice), wanted)

    def test_great_words_and_rows_of_other_letters(self):
        chance = random.Random(4)
        for word in great_words():
            order = chance.choice(FULL)
            choice = tuple((letter, chance.randrange(len(order))) for letter in "abcdefghijmxyz")
            wanted = worth_by_looking(order, word, dict(choice))
            self.assertEqual(worth_of(order, word, choice), wanted)
            fewer = tuple(row for row in choice if row[0] in letters_in(word))
            self.assertEqual(worth_of(order, word, fewer), wanted)

    def test_told_words(self):
        rows = (("a", deep_word(12)), ("b", wide_word(12)), ("c", ("down", wide_word(6), deep_word(6))))
        chance = random.Random(5)
        for word in [deep_word(12), *great_words()[-30:]]:
            order = chance.choice(FULL)
            choice = tuple((letter, chance.randrange(len(order))) for letter in "abcdefghijxyz")
            for told in (put_in(word, rows), word_turned(put_in(word, rows)), word_turned(word)):
                self.assertEqual(worth_of(order, told, choice), worth_by_looking(order, told, dict(choice)))

    def test_turned_over(self):
        for order in FULL:
            choice = tuple((letter, at % len(order)) for at, letter in enumerate("abcxyz"))
            for word in (deep_word(12), ("up", "a", ("down", "b", "c"), ("down", "x", "z"))):
                turned = worth_of(order_turned(order), word_turned(word), choice)
                self.assertEqual(turned, worth_of(order, word, choice))

    def test_three_hundred_things(self):
        order, choice = break_of(*GREATEST)
        for word in GREATEST:
            for way_about in (order, order_turned(order)):
                wanted = worth_by_looking(way_about, word, dict(choice))
                self.assertEqual(worth_of(way_about, word, choice), wanted)

    def test_no_letter(self):
        for word, choice in (
            ("a", ()), ("a", (("b", 0),)), (("up", "a", "b"), (("a", 0),)), (("up", "a", "b"), (("b", 0), ("c", 1))),
            (("down", "a", ("up", "a", ("down", "a", "z"))), (("a", 0), ("b", 1), ("y", 2))), (wide_word(12), ()),
        ):
            for order in (SIDE, THREE, chain(3)):
                with self.assertRaises(NoLetter):
                    worth_of(order, word, choice)

    def test_no_full_ahead_of_no_letter(self):
        for order in OTHERS:
            for word, choice in (("a", ()), (("up", "a", "b"), (("a", 0),)), ("a", (("a", 0),))):
                with self.assertRaises(NoFull):
                    worth_of(order, word, choice)


class MadeByTest(unittest.TestCase):
    def test_by_hand(self):
        self.assertEqual(made_by(SIDE, (1, 3)), (0, 1, 3, 4))
        self.assertEqual(made_by(SIDE, (3, 2, 1)), (0, 1, 2, 3, 4))
        self.assertEqual(made_by(chain(24), (20, 3, 7, 3)), (3, 7, 20))
        self.assertEqual(made_by(sets_order(3), (1, 2)), (0, 1, 2, 3))
        self.assertEqual(made_by(sets_order(3), (1, 2, 4)), tuple(range(8)))

    def test_none(self):
        for order in FULL:
            self.assertEqual(made_by(order, ()), ())

    def test_one_thing(self):
        for order in FULL:
            for thing in range(len(order)):
                self.assertEqual(made_by(order, (thing,)), (thing,))
                self.assertEqual(made_by(order, (thing, thing, thing)), (thing,))

    def test_by_each_set_of_things(self):
        for order in (chain(4), SIDE, THREE, sets_order(2), sets_order(3), flat(4)):
            for many in range(4):
                for things in itertools.combinations(range(len(order)), many):
                    self.assertEqual(made_by(order, things), makes_by_trying(order, things) if things else ())

    def test_twice_and_in_any_order(self):
        chance = random.Random(6)
        for order in FULL:
            for k in range(6):
                things = tuple(chance.randrange(len(order)) for m in range(chance.randint(1, 6)))
                made = made_by(order, things)
                self.assertEqual(made, tuple(sorted(set(made))))
                self.assertLessEqual(set(things), set(made))
                self.assertEqual(made_by(order, things[::-1]), made)
                self.assertEqual(made_by(order, things + things), made)
                self.assertEqual(made_by(order, made), made)
                for one, other in itertools.combinations(made, 2):
                    self.assertIn(bound_by_looking(order, "up", one, other), made)
                    self.assertIn(bound_by_looking(order, "down", one, other), made)

    def test_three_hundred_things(self):
        order, choice = break_of(*GREATEST)
        things = tuple(thing for letter, thing in choice)
        made = made_by(order, things)
        self.assertEqual(made_by(order, made), made)
        self.assertEqual(made_by(order_turned(order), things), made)
        self.assertEqual(made_by(order, tuple(range(300))), tuple(range(300)))

    def test_no_full(self):
        for order in OTHERS:
            for things in ((), (0,), (1, 0)):
                with self.assertRaises(NoFull):
                    made_by(order, things)


class AskedAgainTest(unittest.TestCase):
    def answers(self, order):
        choice = (("a", 0), ("b", len(order) - 1), ("c", len(order) // 2))
        word = ("up", "a", ("down", "b", "c"))
        last = len(order) - 1
        return [
            is_order(order), order_turned(order), first_lack(order), up_of(order, 0, last), down_of(order, last, 0),
            worth_of(order, word, choice), made_by(order, (0, last, last // 2)),
        ]

    def test_same_after_another(self):
        firsts = [self.answers(order) for order in FULL]
        for order in OTHERS:
            self.assertRaises(NoFull, self.answers, order)
        for order, first in zip(FULL, firsts):
            self.assertEqual(self.answers(order), first)
            self.assertTrue(only_told_kinds(tuple(first)))


class SamplesTest(unittest.TestCase):
    def test_samples_are_what_they_should_be(self):
        for order in FULL:
            self.assertTrue(looks_like_order(order) and lack_by_looking(order) is None and is_full_at_once(order))
        for order in OTHERS:
            self.assertTrue(looks_like_order(order) and not is_full_at_once(order))
        self.assertGreater(len(OTHERS), 60)


if __name__ == "__main__":
    unittest.main()
