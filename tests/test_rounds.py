"""Points 20 and 21: the words of the rounds, the least words, the greatest words."""

import random
import unittest

from eitherboth.below import is_below
from eitherboth.errors import NoEnd, NoFull, NoRoom
from eitherboth.rounds import greatest_words, least_words, round_words
from eitherboth.words import word_turned
from samples import (
    CROSS, CROSS_BARE, SIDE, THREE, Table, alike_by_rules, chain, chance_word, come_to, every_full_order,
    first_words_by_looking, flat, hanging_by_looking, has_ring, least_rows_by_looking, looks_short, lowered_by_looking,
    only_told_kinds, other_orders, own_choice, plain_text, points_and_lines, product, renumbered, sets_order,
    small_full_orders, turned_by_looking, worth_by_looking,
)

# The places that are counted come to just eighty in round 4 here, and to more in round 5; ..
EIGHTY = (1, 3, 5, 11, 21, 37, 127)
# .. to eighty-one in round 3 here, and to fewer in round 2.
EIGHTY_ONE = (1, 3, 5, 9, 25, 47, 127)
ASKED = (lambda order: round_words(order, 0), lambda order: round_words(order, 6), least_words, greatest_words)


def sample_orders():
    """Full orders of up to eight things, and all turned over."""
    orders = small_full_orders(6) + small_full_orders(7)[-53::4] + small_full_orders(8)[-222::15]
    orders += [EIGHTY, EIGHTY_ONE, sets_order(3), product(chain(4), chain(2)), flat(6), chain(8)]
    return orders + [turned_by_looking(order) for order in orders]


def all_least_rows(order):
    """For each thing its least rows, by point 18."""
    table = Table(order)
    return [least_rows_by_looking(table, thing) for thing in table.every]


def counted(order, rows, words):
    """The most places that are counted for a thing's word of the next round, by point 20."""
    firsts = first_words_by_looking(order)
    return max(
        len(letters_standing(firsts[thing]))
        + sum(len(letters_standing(words[other])) for row in rows[thing] for other in row)
        for thing in range(len(order))
    )


def letters_standing(word):
    """The letters of a word, each as often as it stands."""
    return [sign for sign in plain_text(word) if sign.isalpha()]


def rounds_told(order):
    """The words of the rounds 0 to 6, those that are not refused."""
    told = []
    for number in range(7):
        try:
            told.append(round_words(order, number))
        except NoRoom:
            break
    return told


def steps_or_none(rows, thing):
    """How many steps down a thing has, None where a ring can be come to from it."""
    pairs = [(low, high) for low, held in enumerate(rows) for row in held for high in row]
    if any(other in come_to(pairs, other) for other in {thing} | come_to(pairs, thing)):
        return None
    return max([1 + steps_or_none(rows, other) for row in rows[thing] for other in row], default=0)


class RoundsTest(unittest.TestCase):
    def test_by_hand(self):
        self.assertEqual(round_words((1,), 0), ("a",))
        self.assertEqual(round_words((1,), 6), ("a",))
        self.assertEqual(round_words((3, 2), 3), (("down", "a", "b"), "b"))
        self.assertEqual(round_words((1, 3), 0), ("a", ("down", "a", "b")))
        texts = [plain_text(word) for word in round_words(SIDE, 0)]
        self.assertEqual(texts, ["(a&b&c&d&e)", "(b&c&e)", "(c&e)", "(d&e)", "e"])
        texts = [plain_text(word) for word in round_words(SIDE, 1)]
        self.assertEqual(texts, ["(a&b&c&d&e)", "(b&c&e)", "(((b&c&e)|(d&e))&c)", "(d&e)", "((b&c&e)|(d&e))"])
        self.assertEqual(round_words(SIDE, 2), round_words(SIDE, 1))
        texts = [plain_text(word) for word in round_words(THREE, 1)]
        self.assertEqual(texts[1], "(((c&e)|(d&e))&b)")

    def test_first_words(self):
        for order in sample_orders():
            self.assertEqual(round_words(order, 0), first_words_by_looking(order))

    def test_each_next_round_is_made_of_the_round_ahead(self):
        for order in sample_orders():
            rows = all_least_rows(order)
            firsts = first_words_by_looking(order)
            told = rounds_told(order)
            for ahead, words in zip(told, told[1:]):
                self.assertLessEqual(counted(order, rows, ahead), 80)
                known = {}
                for thing, word in enumerate(words):
                    self.assertTrue(looks_short(word, known))
                    made = lowered_by_looking(firsts[thing], rows[thing], ahead)
                    self.assertTrue(alike_by_rules(word, made, known))
                self.assertTrue(only_told_kinds(words))
            if len(told) < 7:
                self.assertGreater(counted(order, rows, told[-1]), 80)
                for number in range(len(told), 7):
                    self.assertRaises(NoRoom, round_words, order, number)

    def test_each_word_has_its_thing_as_worth(self):
        for order in sample_orders():
            for words in rounds_told(order):
                for thing, word in enumerate(words):
                    self.assertEqual(worth_by_looking(order, word, own_choice(order)), thing)

    def test_below_the_round_ahead(self):
        kinds = set()
        for order in sample_orders():
            rows = all_least_rows(order)
            steps = [steps_or_none(rows, thing) for thing in range(len(order))]
            told = rounds_told(order)
            for number in range(1, len(told)):
                for thing, (word, ahead) in enumerate(zip(told[number], told[number - 1])):
                    falls = steps[thing] is None or steps[thing] >= number
                    self.assertIs(is_below(word, ahead), True)
                    self.assertIs(is_below(ahead, word), not falls)
                    self.assertEqual(word == ahead, not falls)
                    kinds.add((steps[thing], number, falls))
        self.assertLessEqual({(None, 1, True), (None, 4, True), (1, 1, True), (1, 2, False), (2, 2, True)}, kinds)

    def test_no_room_at_its_very_edge(self):
        rows = all_least_rows(EIGHTY)
        self.assertEqual([counted(EIGHTY, rows, round_words(EIGHTY, 3)), len(round_words(EIGHTY, 4))], [80, 7])
        self.assertGreater(counted(EIGHTY, rows, round_words(EIGHTY, 4)), 80)
        for number in (5, 6):
            self.assertRaises(NoRoom, round_words, EIGHTY, number)
        rows = all_least_rows(EIGHTY_ONE)
        self.assertEqual(counted(EIGHTY_ONE, rows, round_words(EIGHTY_ONE, 2)), 81)
        for number in (3, 4, 5, 6):
            self.assertRaises(NoRoom, round_words, EIGHTY_ONE, number)

    def test_at_the_edge_however_the_things_are_numbered(self):
        chance = random.Random(80)
        for k in range(5):
            numbers = chance.sample(range(7), 7)
            self.assertEqual(len(round_words(renumbered(EIGHTY, numbers), 4)), 7)
            self.assertRaises(NoRoom, round_words, renumbered(EIGHTY, numbers), 5)
            self.assertRaises(NoRoom, round_words, renumbered(EIGHTY_ONE, numbers), 3)

    def test_all_full_orders_of_eight_things_near_the_edge(self):
        near = 0
        for order in every_full_order(8)[::3]:
            told = rounds_told(order)
            rows = all_least_rows(order)
            counts = [counted(order, rows, words) for words in told[:6]]
            self.assertEqual([many for many in counts[:-1] if many > 80], [])
            if len(told) < 7:
                self.assertGreater(counts[-1], 80)
            near += sum(70 < many < 90 for many in counts)
        self.assertGreater(near, 10)


class LeastAndGreatestTest(unittest.TestCase):
    def test_by_hand(self):
        self.assertEqual(least_words((1,)), ("a",))
        self.assertEqual(greatest_words((1,)), ("a",))
        self.assertEqual(least_words((3, 2)), (("down", "a", "b"), "b"))
        self.assertEqual(greatest_words((3, 2)), ("a", ("up", "a", "b")))
        texts = [plain_text(word) for word in least_words(SIDE)]
        self.assertEqual(texts, ["(a&b&c&d&e)", "(b&c&e)", "(((b&c&e)|(d&e))&c)", "(d&e)", "((b&c&e)|(d&e))"])
        texts = [plain_text(word) for word in greatest_words(SIDE)]
        self.assertEqual(texts, ["((a|b|c)&(a|d))", "(((a|b|c)&(a|d))|b)", "(a|b|c)", "(a|d)", "(a|b|c|d|e)"])

    def test_greatest_words_turned_over(self):
        for order in sample_orders():
            try:
                told = greatest_words(order)
            except NoEnd:
                self.assertRaises(NoEnd, least_words, turned_by_looking(order))
                continue
            known = {}
            for word, least in zip(told, least_words(turned_by_looking(order))):
                self.assertTrue(looks_short(word, known))
                self.assertTrue(alike_by_rules(word, word_turned(least), known))

    def test_no_end_just_where_there_is_a_ring(self):
        kinds = set()
        for order in sample_orders():
            rings = [has_ring(hanging_by_looking(Table(some))) for some in (order, turned_by_looking(order))]
            for ring, told in zip(rings, (least_words, greatest_words)):
                if ring:
                    self.assertRaises(NoEnd, told, order)
                else:
                    self.assertEqual(len(told(order)), len(order))
            kinds.add(tuple(rings))
        self.assertEqual(kinds, {(False, False), (True, True), (False, True), (True, False)})

    def test_the_same_as_the_words_of_a_late_round(self):
        many = 0
        for order in sample_orders():
            if has_ring(hanging_by_looking(Table(order))):
                continue
            told = rounds_told(order)
            self.assertTrue(all(looks_short(word, {}) for word in least_words(order)))
            if len(told) == 7:
                self.assertEqual(least_words(order), told[6])
                many += 1
            rows = all_least_rows(order)
            firsts = first_words_by_looking(order)
            words = least_words(order)
            for thing, word in enumerate(words):
                self.assertTrue(alike_by_rules(word, lowered_by_looking(firsts[thing], rows[thing], words), {}))
        self.assertGreater(many, 20)

    def test_words_drawn(self):
        chance = random.Random(21)
        for order in sample_orders()[::2]:
            letters = "abcdefgh"[:len(order)]
            words = [chance_word(chance, chance.randint(1, 12), letters) for k in range(25)]
            for told, is_least in ((least_words, True), (greatest_words, False)):
                try:
                    found = told(order)
                except NoEnd:
                    continue
                self.assertTrue(only_told_kinds(found))
                for word in words:
                    worth = worth_by_looking(order, word, own_choice(order))
                    for thing, bound in enumerate(found):
                        low, high = (bound, word) if is_least else (word, bound)
                        reached = order[thing] >> worth & 1 if is_least else order[worth] >> thing & 1
                        self.assertIs(is_below(low, high), bool(reached))

    def test_own_worth(self):
        for order in sample_orders():
            for told in (least_words, greatest_words):
                try:
                    found = told(order)
                except NoEnd:
                    continue
                for thing, word in enumerate(found):
                    self.assertEqual(worth_by_looking(order, word, own_choice(order)), thing)


class RefusalsTest(unittest.TestCase):
    def test_no_full(self):
        orders = other_orders()
        self.assertTrue(any(len(order) > 8 for order in orders))
        for order in orders:
            for told in ASKED:
                self.assertRaises(NoFull, told, order)

    def test_no_full_ahead_of_no_room(self):
        for order in (product(CROSS, chain(2)), product(CROSS_BARE, chain(4))):
            for told in ASKED:
                self.assertRaises(NoFull, told, order)

    def test_no_room(self):
        orders = [chain(many) for many in range(9, 17)] + [flat(many) for many in range(7, 15)]
        orders += [sets_order(4), points_and_lines(), product(chain(3), chain(3)), product(chain(2), SIDE)]
        for order in orders + [turned_by_looking(order) for order in orders]:
            for told in ASKED:
                self.assertRaises(NoRoom, told, order)

    def test_eight_things_are_told(self):
        self.assertEqual(len(round_words(flat(6), 0)), 8)
        for told in ASKED:
            self.assertEqual(len(told(chain(8))), 8)
            self.assertEqual(len(told(sets_order(3))), 8)

    def test_no_room_ahead_of_no_end(self):
        for order in (flat(7), product(chain(2), THREE)):
            self.assertRaises(NoRoom, least_words, order)
            self.assertRaises(NoRoom, greatest_words, order)
        self.assertRaises(NoEnd, least_words, flat(6))
        self.assertRaises(NoEnd, greatest_words, flat(6))

    def test_a_class_of_its_own_each(self):
        for refusal, order in ((NoFull, CROSS), (NoRoom, chain(9)), (NoEnd, THREE)):
            for told in (least_words, greatest_words):
                with self.assertRaises(refusal) as caught:
                    told(order)
                self.assertIs(type(caught.exception), refusal)


class AskedAgainTest(unittest.TestCase):
    def test_same_after_another(self):
        orders = sample_orders()[::6]

        def told_of(order):
            found = [rounds_told(order)]
            for told in (least_words, greatest_words):
                try:
                    found.append(told(order))
                except NoEnd:
                    found.append(None)
            return found

        firsts = [told_of(order) for order in orders]
        self.assertRaises(NoRoom, round_words, EIGHTY, 5)
        self.assertRaises(NoFull, round_words, CROSS, 1)
        self.assertEqual([told_of(order) for order in reversed(orders)][::-1], firsts)


if __name__ == "__main__":
    unittest.main()
