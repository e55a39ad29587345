"""Point 12: breaks, finite full orders in which a word is not below another one."""

import copy
import itertools
import unittest

from eitherboth.below import is_below
from eitherboth.breaks import break_of, break_stands
from eitherboth.errors import NoRoom
from eitherboth.words import word_turned
from samples import (
    CROSS, CROSS_LOW, SIDE, THREE, breaks_it, chain, closed_by_joining, closed_by_trying, deep_word, flat,
    is_full_at_once, letters_in, one_change, only_told_kinds, order_of, product, read_back, sets_order, small_words,
    wide_word, word_pairs,
)

SMALL = small_words()[:90]
# Pairs of words, the one not below the other, with how many sets of their parts are closed.
COUNTED = (
    ("a", "b", 4),
    ("(a|b)", "a", 4),
    ("a", "(a&b)", 5),
    ("(a&(b|c))", "((a&b)|(a&c))", 16),
    ("(((e&c)&a)&(((c&a)|j)&f)&g)", "(d|d)", 300),
    ("(((d|(a&(d&b)))|(b&j)|g|a)&j&k)", "i", 300),
    ("((f&a)&((h|a)&((h|i)&a))&(i&c)&l)", "j", 300),
    ("((((a&f)|a)&h)|j|c)", "((i|a)&((i&b)&j)&c)", 299),
    ("((g&(e|c))&(e&a&c)&b)", "((e&h)&f&(g|e))", 297),
    ("(((c&(a&l))&g)|l|(g&b))", "((d&b&a)&j)", 301),
    ("((b&k)&(h|f)&(j&(h|b))&d)", "((g|g)&k)", 301),
    ("((a&h)|((d|i)&(h|(b&c))))", "j", 302),
    ("(a|b|c|d|e|f|g|h)", "(a|b|c|d|e|f|g)", 256),
    ("(a|b|c|d|e|f|g|h|i)", "a", 512),
    ("a", "(b&c&d&e&f&g&h&i)", 1000),
)
# (one, other, a break)
BREAKS = (
    ("a", "b", ((1, 3), (("a", 0), ("b", 1)))),
    ("a", "b", ((3, 2), (("a", 1), ("b", 0)))),
    ("a", "b", ((3, 2), (("a", 1), ("b", 0), ("z", 0)))),
    ("a", "b", (SIDE, (("a", 1), ("b", 3)))),
    ("c", "b", (THREE, (("a", 0), ("b", 1), ("c", 2), ("d", 4)))),
    ("(a|b)", "(a&b)", ((3, 2), (("a", 0), ("b", 1)))),
    ("(a&(b|c))", "((a&b)|(a&c))", (SIDE, (("a", 2), ("b", 1), ("c", 3)))),
    ("(a&(b|c))", "((a&b)|(a&c))", (THREE, (("a", 2), ("b", 1), ("c", 3)))),
    ("((a|b)&(a|c))", "(a|(b&c))", (SIDE, (("a", 1), ("b", 3), ("c", 2)))),
    ("a", "b", (chain(400), (("a", 399), ("b", 398)))),
    ("a", "b", (chain(400), (("a", 1), ("b", 0), ("q", 399)))),
    ("(a&(b|c))", "((a&b)|(a&c))", (flat(330), (("a", 200), ("b", 1), ("c", 330)))),
)
# (one, other, what is no break of them)
NO_BREAKS = (
    ("a", "b", ((3, 2), (("a", 0), ("b", 1)))),
    ("a", "b", ((3, 2), (("a", 1), ("b", 1)))),
    ("a", "b", ((1, 2), (("a", 0), ("b", 1)))),
    ("a", "b", (CROSS, (("a", 1), ("b", 2)))),
    ("a", "b", (CROSS_LOW, (("a", 1), ("b", 0)))),
    ("a", "b", ((3, 2), (("b", 0), ("a", 1)))),
    ("a", "b", ((3, 2), (("a", 1), ("a", 1), ("b", 0)))),
    ("a", "b", ((3, 2), (("a", 1), ("b", 0), ("b", 0)))),
    ("a", "b", ((3, 2), (("a", 0), ("a", 1), ("b", 0)))),
    ("a", "b", ((3, 2), (("a", 1), ("b", 0), ("d", 0), ("c", 0)))),
    ("a", "b", ((3, 2), (("a", 1),))),
    ("a", "b", ((3, 2), (("b", 0),))),
    ("a", "b", ((3, 2), ())),
    ("a", "b", ((3, 2), (("a", 2), ("b", 0)))),
    ("a", "b", ((3, 2), (("a", -1), ("b", 0)))),
    ("a", "b", ((3, 2), (("a", 1), ("b", -2)))),
    ("a", "b", ((3, 2), (("a", 1), ("b", 0), ("z", 2)))),
    ("a", "b", ((3, 2), (("a", 1), ("b", 0), ("z", True)))),
    ("a", "b", ((3, 2), (("a", True), ("b", 0)))),
    ("a", "b", ((3, 2), (("a", 1), ("b", False)))),
    ("a", "b", ((3, 2), (("a", 1), ("b", None)))),
    ("a", "b", ((3, 2), (("a", "1"), ("b", 0)))),
    ("a", "b", ((3, 2), (("a", 1), ("b", 0), ("B", 0)))),
    ("a", "b", ((3, 2), (("", 0), ("a", 1), ("b", 0)))),
    ("a", "b", ((3, 2), (("a", 1), ("aa", 1), ("b", 0)))),
    ("a", "b", ((3, 2), (("a", 1), ("b", 0), (0, 0)))),
    ("a", "b", ((3, 2), (("a", 1), ("b", 0), ("c",)))),
    ("a", "b", ((3, 2), (("a", 1), ("b", 0), ("c", 0, 0)))),
    ("a", "b", ((3, 2), (("a", 1), ("b", 0), "c0"))),
    ("a", "b", ((3, 2), (("a", 1), ("b", 0), ()))),
    ("a", "b", ((3, 2), (["a", 1], ("b", 0)))),
    ("a", "b", ((3, 2), [("a", 1), ("b", 0)])),
    ("a", "b", ([3, 2], (("a", 1), ("b", 0)))),
    ("a", "b", [(3, 2), (("a", 1), ("b", 0))]),
    ("a", "b", ((3, 2), (("a", 1), ("b", 0)), ())),
    ("a", "b", ((3, 2),)),
    ("a", "b", ((("a", 1), ("b", 0)), (3, 2))),
    ("a", "b", ((), (("a", 1), ("b", 0)))),
    ("a", "b", ((3, 3), (("a", 1), ("b", 0)))),
    ("a", "b", ((3, True), (("a", 1), ("b", 0)))),
    ("a", "b", ((3, 6), (("a", 1), ("b", 0)))),
    ("a", "b", ((1,), (("a", 0), ("b", 0)))),
    ("a", "a", ((3, 2), (("a", 1),))),
    ("a", "(a|b)", ((3, 2), (("a", 1), ("b", 0)))),
    ("(a&(b|c))", "((a&b)|(a&c))", (sets_order(3), (("a", 6), ("b", 1), ("c", 3)))),
    ("a", "b", (chain(400), (("a", 1), ("b", 300)))),
    ("a", "b", (chain(400)[:399] + (0,), (("a", 300), ("b", 1)))),
    ("a", "b", (tuple(1 << k for k in range(400)), (("a", 300), ("b", 1)))),
)
ANY_THINGS = (None, True, False, 0, -1, "", "ab", (), [], ((), ()), ([], []), (1, 2), ((1,), ()), ((1,), None), "12",
              ((1,), 0), (None, ()), ((1,), ((),)), ((1,), (("a",),)), ((1,), (("a", 0, 0),)), ((1,), "a"), (((1,),),))


def read_pair(row):
    return read_back(row[0]), read_back(row[1])


class BreakOfTest(unittest.TestCase):
    def check(self, one, other):
        """Looks at what is told of the two words, and tells it; NoRoom itself for a refusal."""
        try:
            told = break_of(one, other)
        except NoRoom:
            self.assertIs(is_below(one, other), False)
            return NoRoom
        if told is None:
            self.assertIs(is_below(one, other), True)
            return told
        self.assertIs(is_below(one, other), False)
        self.assertTrue(breaks_it(one, other, told))
        self.assertLessEqual(len(told[0]), 300)
        self.assertEqual([letter for letter, thing in told[1]], sorted(letters_in(one) | letters_in(other)))
        self.assertTrue(only_told_kinds(told))
        return told

    def test_by_hand(self):
        for row in COUNTED:
            one, other = read_pair(row)
            with self.subTest(row=row):
                self.assertEqual(self.check(one, other) is NoRoom, row[2] > 300)
        for one, other in (("a", "a"), ("(a&b)", "(a|b)"), ("(a|(a&b))", "a"), ("((a&b)|(a&c))", "(a&(b|c))")):
            self.assertIsNone(break_of(read_back(one), read_back(other)))

    def test_counts_by_another_walk(self):
        for row in COUNTED:
            most = 310 if row[2] < 310 else 300
            many = closed_by_joining(*read_pair(row), most)
            self.assertEqual(many, row[2]) if row[2] < 310 else self.assertGreater(many, 300)

    def test_small_words(self):
        for one, other in itertools.product(SMALL, repeat=2):
            self.assertIsNot(self.check(one, other), NoRoom)

    def test_two_walks_count_the_same(self):
        for one, other in itertools.product(SMALL[::7], repeat=2):
            self.assertEqual(closed_by_trying(one, other), closed_by_joining(one, other, 300))
        for one, other in (("(a&(b|c))", "((a&b)|(a&c))"), ("(a|(b&c))", "(c&(a|b|d))"), ("(a&b&c)", "(c|b|(a&d))")):
            one, other = read_back(one), read_back(other)
            self.assertEqual(closed_by_trying(one, other), closed_by_joining(one, other, 300))

    def test_pairs_both_ways_about(self):
        kinds = set()
        for one, other in word_pairs(20, 11, "abcde") + word_pairs(6, 12, "abcdefghijkl"):
            many = closed_by_joining(one, other, 300)
            for low, high in ((one, other), (other, one)):
                told = self.check(low, high)
                if told is not None:
                    self.assertEqual(told is NoRoom, many > 300)
                kinds.add("room" if told is NoRoom else "none" if told is None else "break")
        self.assertEqual(kinds, {"room", "none", "break"})

    def test_none_however_many_closed_sets(self):
        for one, other in (
            (wide_word(12), wide_word(12)), (word_turned(wide_word(12)), wide_word(12)),
            (("down", "a", wide_word(11)), ("up", "a", word_turned(wide_word(11)))), ("a", wide_word(12)),
        ):
            self.assertGreater(closed_by_joining(one, other, 300), 300)
            self.assertIsNone(break_of(one, other))

    def test_no_room(self):
        for one, other in (
            (wide_word(12), "a"), (wide_word(12), word_turned(wide_word(12))), ("z", wide_word(12)),
            (("up", *"abcdef"), ("up", *"ghijkl")), (("down", *"abcdefgh"), "z"),
        ):
            self.assertGreater(closed_by_joining(one, other, 300), 300)
            with self.assertRaises(NoRoom):
                break_of(one, other)

    def test_no_room_although_a_lesser_order_would_do(self):
        one = ("up", *"abcdefghi")
        self.assertRaises(NoRoom, break_of, one, "a")
        choice = tuple((letter, int(letter == "b")) for letter in "abcdefghi")
        self.assertIs(break_stands(one, "a", ((3, 2), choice)), True)

    def test_kinds(self):
        order, choice = break_of("b", "a")
        self.assertIs(type(order), tuple)
        self.assertEqual([letter for letter, thing in choice], ["a", "b"])
        self.assertIsNone(break_of("a", "a"))


class BreakStandsTest(unittest.TestCase):
    def test_breaks(self):
        for row in BREAKS:
            with self.subTest(words=row[:2]):
                self.assertIs(break_stands(*read_pair(row), row[2]), True)

    def test_no_breaks(self):
        for row in NO_BREAKS:
            with self.subTest(row=row[:2], thing=row[2] if len(str(row[2])) < 300 else "great"):
                self.assertIs(break_stands(*read_pair(row), row[2]), False)

    def test_told_breaks(self):
        for one, other in word_pairs(40, 11, "abcde"):
            for low, high in ((one, other), (other, one)):
                try:
                    told = break_of(low, high)
                except NoRoom:
                    continue
                if told is None:
                    continue
                self.assertIs(break_stands(low, high, told), True)
                more = (told[0], (*told[1], ("y", 0), ("z", len(told[0]) - 1)))
                self.assertIs(break_stands(low, high, more), True)
                self.assertIs(break_stands(low, high, (told[0], told[1][1:])), False)
                self.assertIs(break_stands(low, ("up", low, high), told), False)

    def test_breaks_of_other_pairs(self):
        rows = [row for row in BREAKS + NO_BREAKS if len(str(row[2])) < 300]
        pairs = sorted({read_pair(row) for row in rows}, key=repr)
        for (low, high), row in itertools.product(pairs, rows):
            self.assertIs(break_stands(low, high, row[2]), breaks_it(low, high, row[2]))
            self.assertIs(break_stands(high, low, row[2]), breaks_it(high, low, row[2]))

    def test_any_things(self):
        for one, other in word_pairs(10, 13):
            for thing in ANY_THINGS:
                self.assertIs(break_stands(one, other, thing), False)

    def test_no_break_where_the_one_is_below_the_other(self):
        orders = (chain(2), SIDE, THREE, sets_order(2))
        for one, other in word_pairs(10, 14, "ab"):
            if is_below(one, other):
                for order in orders:
                    for things in itertools.product(range(len(order)), repeat=2):
                        self.assertIs(break_stands(one, other, (order, tuple(zip("ab", things)))), False)

    def test_all_choices_of_small_orders(self):
        for one, other in itertools.product(SMALL[::6], repeat=2):
            for order in (chain(3), SIDE):
                for things in itertools.product(range(len(order)), repeat=2):
                    thing = (order, tuple(zip("ab", things)))
                    self.assertIs(break_stands(one, other, thing), breaks_it(one, other, thing))

    def test_one_thing_put_otherwise(self):
        stand = fall = 0
        told = [(one, other, break_of(one, other)) for one, other in itertools.product(SMALL[::9], repeat=2)]
        rows = [(*read_pair(row), row[2]) for row in BREAKS if len(row[2][0]) < 20]
        for one, other, thing in rows + [row for row in told if row[2] is not None]:
            for changed in one_change(thing, (1, ("z", 0))):
                wanted = breaks_it(one, other, changed)
                self.assertIs(break_stands(one, other, changed), wanted, (one, other, changed))
                stand, fall = stand + wanted, fall + (not wanted)
        # Some are breaks still, such as those with a row more or with another thing for a letter.
        self.assertGreater(stand, 100)
        self.assertGreater(fall, 5000)

    def test_three_hundred_things_with_one_put_otherwise(self):
        one, other = read_pair(COUNTED[4])
        order, choice = break_of(one, other)
        self.assertEqual(len(order), 300)
        self.assertIs(break_stands(one, other, (order, choice)), True)
        for at in range(0, 300, 23):
            for new in (True, None, [order[at]], -order[at], order[at] ^ 1 << at, order[at] | 1 << 300, order[at - 1]):
                self.assertIs(break_stands(one, other, (order[:at] + (new,) + order[at + 1:], choice)), False)
            left = (order[:at] + order[at + 1:], choice)
            self.assertIs(break_stands(one, other, left), breaks_it(one, other, left))
        for at, (letter, thing) in enumerate(choice):
            for row in ((letter, 300), (letter, -1), (letter, True), (letter,), [letter, thing], ("A", thing), letter):
                self.assertIs(break_stands(one, other, (order, choice[:at] + (row,) + choice[at + 1:])), False)
            self.assertIs(break_stands(one, other, (order, choice[:at] + choice[at + 1:])), False)
        self.assertIs(break_stands(one, other, (order, choice[::-1])), False)
        self.assertIs(break_stands(one, other, (order, choice + choice)), False)

    def test_more_than_three_hundred_things(self):
        one, other = read_back("(a|b|c|d|e|f|g|h)"), read_back("(a|b|c|d|e|f|g)")
        order, choice = break_of(one, other)
        twice = product(order, chain(2))
        self.assertGreater(len(twice), 300)
        self.assertTrue(is_full_at_once(twice))
        doubled = tuple((letter, 2 * thing + (letter == "c")) for letter, thing in choice)
        self.assertIs(break_stands(one, other, (twice, doubled)), True)
        self.assertIs(break_stands(other, one, (twice, doubled)), False)
        # Without the highest thing some two have no least above.
        highest = twice.index(min(twice, key=int.bit_count))
        kept = [k for k in range(len(twice)) if k != highest]
        numbered = list(enumerate(kept))
        left = order_of(len(kept), [(a, b) for a, k in numbered for b, m in numbered if twice[k] >> m & 1])
        moved = tuple((letter, kept.index(thing)) for letter, thing in doubled)
        self.assertIs(break_stands(one, other, (left, moved)), False)

    def test_thirty_deep_and_two_thousand_things(self):
        deep = ()
        for k in range(29):
            deep = (deep, ())
        for thing in (deep, [deep], (deep, deep), ((1,) * 1000, (("a", 0),) * 300), ((), ("a",) * 1990), [0] * 1999,
                      ((1,), tuple(("a", 0) for k in range(600))), (tuple(range(1990)), ())):
            self.assertIs(break_stands("a", "b", thing), False)

    def test_stays_as_it_was(self):
        things = [[(3, 2), (("a", 1), ("b", 0))], ([3, 2], (("a", 1), ("b", 0))), ((3, 2), [["a", 1], ("b", 0)]),
                  ((3, 2), (["a", 1], ("b", 0))), BREAKS[0][2]]
        before = copy.deepcopy(things)
        first = [break_stands("a", "b", thing) for thing in things]
        self.assertEqual(first, [False] * 4 + [True])
        self.assertEqual([break_stands("a", "b", thing) for thing in things], first)
        self.assertEqual(things, before)


class SamplesTest(unittest.TestCase):
    def test_words_of_twelve_places_are_told_in_good_time(self):
        for one, other in ((deep_word(12), word_turned(deep_word(12))), (word_turned(deep_word(12)), deep_word(12))):
            told = break_of(one, other)
            self.assertEqual(told is None, is_below(one, other))


if __name__ == "__main__":
    unittest.main()
