"""Points 18 and 19: single things, least rows, what hangs on what, rings, steps down."""

import random
import unittest

from eitherboth.errors import NoEnd, NoFull, NoRoom
from eitherboth.rows import hanging_pairs, least_rows, ring_in, ring_of, single_things, steps_down
from samples import (
    CROSS, SIDE, THREE, Table, chain, every_full_order, flat, hanging_by_looking, has_ring, least_rows_by_looking,
    only_told_kinds, other_orders, points_and_lines, product, renumbered, sets_order, singles_by_looking,
    small_full_orders, turned_by_looking,
)

ASKED = (single_things, hanging_pairs, ring_of, steps_down, lambda order: least_rows(order, 0))


def great_orders():
    """Full orders of eight to ten things."""
    orders = [chain(9), chain(10), flat(7), flat(8), sets_order(3), product(chain(2), SIDE), product(chain(2), THREE)]
    orders += [product(chain(3), chain(3)), product(chain(5), chain(2))]
    chance = random.Random(19)
    orders += [renumbered(order, chance.sample(range(len(order)), len(order))) for order in orders]
    return orders + every_full_order(8)[::9] + every_full_order(9)[::80]


def sample_orders():
    """Full orders of up to ten things, and all turned over."""
    orders = small_full_orders(6) + small_full_orders(7)[-53::3] + great_orders()
    return orders + [turned_by_looking(order) for order in orders]


def steps_by_looking(table):
    """Point 19 said out of the document, where there is no ring: how many steps down each thing has."""
    rows = {thing: least_rows_by_looking(table, thing) for thing in table.every}

    def steps(thing):
        return 1 + max(steps(other) for row in rows[thing] for other in row) if rows[thing] else 0

    return tuple(steps(thing) for thing in table.every)


class ByHandTest(unittest.TestCase):
    def test_chains(self):
        for many in range(1, 11):
            order = chain(many)
            self.assertEqual(single_things(order), tuple(range(1, many)))
            self.assertEqual([least_rows(order, thing) for thing in range(many)], [()] * many)
            self.assertEqual((hanging_pairs(order), ring_of(order), steps_down(order)), ((), None, (0,) * many))

    def test_sets(self):
        self.assertEqual(single_things(sets_order(3)), (1, 2, 4))
        self.assertEqual(least_rows(sets_order(3), 7), ((1, 2, 4),))
        self.assertEqual(least_rows(sets_order(3), 5), ((1, 4),))
        self.assertEqual(least_rows(sets_order(3), 4), ())
        self.assertEqual(hanging_pairs(sets_order(3)), ())
        self.assertEqual(steps_down(sets_order(3)), (0, 0, 0, 1, 0, 1, 1, 1))

    def test_side(self):
        # 0 lowest, 4 highest, 1 below 2, 3 aside: 2 is below the "up" of 1 and 3.
        self.assertEqual(single_things(SIDE), (1, 2, 3))
        self.assertEqual([least_rows(SIDE, thing) for thing in range(5)], [(), (), ((1, 3),), (), ((1, 3),)])
        self.assertEqual(hanging_pairs(SIDE), ((2, 1), (2, 3)))
        self.assertIsNone(ring_of(SIDE))
        self.assertEqual(steps_down(SIDE), (0, 0, 1, 0, 1))

    def test_three(self):
        self.assertEqual(single_things(THREE), (1, 2, 3))
        self.assertEqual(least_rows(THREE, 1), ((2, 3),))
        self.assertEqual(least_rows(THREE, 4), ((1, 2), (1, 3), (2, 3)))
        self.assertEqual(least_rows(THREE, 0), ())
        self.assertEqual(hanging_pairs(THREE), ((1, 2), (1, 3), (2, 1), (2, 3), (3, 1), (3, 2)))
        self.assertIn(len(ring_of(THREE)), (2, 3))
        self.assertRaises(NoEnd, steps_down, THREE)

    def test_one_and_two_things(self):
        for order, singles in (((1,), ()), ((3, 2), (1,)), ((1, 3), (0,))):
            self.assertEqual(single_things(order), singles)
            self.assertEqual((hanging_pairs(order), ring_of(order)), ((), None))
            self.assertEqual(steps_down(order), (0,) * len(order))
            self.assertEqual(least_rows(order, len(order) - 1), ())


class AgainstThePointsTest(unittest.TestCase):
    def check(self, order):
        """Looks at all that is told of an order, and tells whether it has a ring."""
        table = Table(order)
        self.assertEqual(single_things(order), tuple(singles_by_looking(table)))
        for thing in table.every:
            told = least_rows(order, thing)
            self.assertEqual(told, least_rows_by_looking(table, thing), (order, thing))
            self.assertTrue(only_told_kinds(told))
        pairs = hanging_pairs(order)
        self.assertEqual(pairs, hanging_by_looking(table))
        self.assertTrue(only_told_kinds(pairs))
        ring = ring_of(order)
        self.assertEqual(ring is not None, has_ring(pairs))
        if ring is None:
            self.assertEqual(steps_down(order), steps_by_looking(table))
            self.assertTrue(only_told_kinds(steps_down(order)))
            return False
        self.assertIs(type(ring), tuple)
        self.assertEqual(len(set(ring)), len(ring))
        self.assertTrue(ring)
        for thing, other in zip(ring, ring[1:] + ring[:1]):
            self.assertIn((thing, other), pairs)
        self.assertRaises(NoEnd, steps_down, order)
        return True

    def test_sample_orders(self):
        rings = [self.check(order) for order in sample_orders()]
        self.assertGreater(rings.count(True), 30)
        self.assertGreater(rings.count(False), 30)

    def test_rings_of_all_full_orders_of_eight_things(self):
        for order in every_full_order(8):
            pairs = hanging_pairs(order)
            ring = ring_of(order)
            self.assertEqual(ring is not None, has_ring(pairs))
            if ring is not None:
                self.assertEqual(len(set(ring)), len(ring))
                self.assertLessEqual(set(zip(ring, ring[1:] + ring[:1])), set(pairs))

    def test_long_rings(self):
        # No full order of up to ten things needs one of more than two things.
        self.assertEqual(sorted(ring_in({1: [2], 2: [3], 3: [1], 4: [1]})), [1, 2, 3])
        self.assertIn(ring_in({5: [3], 3: [7, 4], 4: [5], 7: []}), ((5, 3, 4), (3, 4, 5), (4, 5, 3)))
        self.assertIn(ring_in({0: [1], 1: [2], 2: [3], 3: [4, 2], 4: []}), ((2, 3), (3, 2)))
        self.assertIsNone(ring_in({0: [1, 2, 3], 1: [2, 3], 2: [3], 3: []}))
        self.assertIsNone(ring_in({}))

    def test_steps_of_more_than_one(self):
        found = {max(steps_down(order)) for order in every_full_order(8) if ring_of(order) is None}
        self.assertLessEqual({0, 1, 2}, found)


class RefusalsTest(unittest.TestCase):
    def test_no_full(self):
        orders = other_orders()
        self.assertTrue(any(len(order) > 10 for order in orders))
        for order in orders:
            for told in ASKED:
                self.assertRaises(NoFull, told, order)

    def test_no_full_ahead_of_no_room(self):
        order = product(CROSS, chain(2))
        self.assertEqual(len(order), 12)
        for told in ASKED:
            self.assertRaises(NoFull, told, order)

    def test_no_room(self):
        orders = [chain(many) for many in range(11, 17)] + [flat(many) for many in range(9, 15)]
        orders += [sets_order(4), points_and_lines(), product(chain(3), SIDE), product(chain(3), chain(4))]
        for order in orders:
            for told in ASKED:
                self.assertRaises(NoRoom, told, order)
                self.assertRaises(NoRoom, told, turned_by_looking(order))

    def test_ten_things_are_told(self):
        for order in (chain(10), flat(8), product(chain(2), SIDE), product(chain(2), THREE)):
            self.assertEqual(len(order), 10)
            for told in ASKED[:3]:
                told(order)
            self.assertRaises(NoEnd, steps_down, flat(8))
            self.assertEqual(len(steps_down(chain(10))), 10)

    def test_no_room_ahead_of_no_end(self):
        for order in (flat(9), product(chain(3), THREE), points_and_lines()):
            self.assertRaises(NoRoom, steps_down, order)

    def test_a_class_of_its_own_each(self):
        for refusal, order in ((NoFull, CROSS), (NoRoom, chain(11)), (NoEnd, THREE)):
            with self.assertRaises(refusal) as caught:
                steps_down(order)
            self.assertIs(type(caught.exception), refusal)


class AskedAgainTest(unittest.TestCase):
    def test_same_after_another(self):
        orders = sample_orders()[::7]

        def told_of(order):
            rows = tuple(least_rows(order, thing) for thing in range(len(order)))
            steps = steps_down(order) if ring_of(order) is None else None
            return single_things(order), rows, hanging_pairs(order), steps

        firsts = [told_of(order) for order in orders]
        self.assertRaises(NoFull, steps_down, CROSS)
        self.assertRaises(NoRoom, steps_down, chain(12))
        self.assertEqual([told_of(order) for order in reversed(orders)][::-1], firsts)


if __name__ == "__main__":
    unittest.main()
