"""Point 11: ways that show that a word is below another one."""

import copy
import itertools
import unittest

from eitherboth.below import is_below
from eitherboth.ways import way_of, way_stands
from eitherboth.words import put_in, word_turned
from samples import (
    deep_word, great_words, one_change, only_told_kinds, read_back, small_words, told_pairs, walks, wide_word,
    word_pairs,
)

SMALL = small_words()[:90]
SAME = ("same",)
# (one, other, a way)
WAYS = (
    ("a", "a", SAME),
    ("(a|b)", "(a|b)", SAME),
    ("(a|b)", "(a|b)", ("arms", ("into", 0, SAME), ("into", 1, SAME))),
    ("(a&b)", "(a&b)", ("each", ("from", 0, SAME), ("from", 1, SAME))),
    ("(a|a)", "a", ("arms", SAME, SAME)),
    ("a", "(a&a&a)", ("each", SAME, SAME, SAME)),
    ("(a&b)", "b", ("from", 1, SAME)),
    ("a", "(b|c|a)", ("into", 2, SAME)),
    ("(a&b)", "(b|a)", ("from", 0, ("into", 1, SAME))),
    ("(a&b)", "(b|a)", ("from", 1, ("into", 0, SAME))),
    ("(a&b)", "(b|a)", ("into", 0, ("from", 1, SAME))),
    ("(a&b)", "(b|a)", ("into", 1, ("from", 0, SAME))),
    ("(a|b)", "(c|(a|b))", ("into", 1, SAME)),
    ("(a|b)", "(c|(a|b))", ("arms", ("into", 1, ("into", 0, SAME)), ("into", 1, ("into", 1, SAME)))),
    ("((a&b)|(a&c))", "(a&(b|c))", ("arms", ("each", ("from", 0, SAME), ("from", 1, ("into", 0, SAME))),
                                    ("each", ("from", 0, SAME), ("into", 1, ("from", 1, SAME))))),
    ("((a&b)|(a&c))", "(a&(b|c))", ("each", ("arms", ("from", 0, SAME), ("from", 0, SAME)),
                                    ("arms", ("from", 1, ("into", 0, SAME)), ("from", 1, ("into", 1, SAME))))),
)
# (one, other, what is no way for them)
NO_WAYS = (
    ("a", "b", SAME),
    ("(a|b)", "(b|a)", SAME),
    ("(a|b)", "(a&b)", SAME),
    ("a", "a", ()),
    ("a", "a", ("same", "same")),
    ("a", "a", ("same", ())),
    ("a", "a", (SAME,)),
    ("a", "a", ["same"]),
    ("a", "a", "same"),
    ("a", "a", ("arms",)),
    ("a", "a", ("each",)),
    ("a", "a", ("arms", SAME)),
    ("a", "a", ("each", SAME)),
    ("a", "a", ("from", 0, SAME)),
    ("a", "a", ("into", 0, SAME)),
    ("(a|a)", "a", ("arms", SAME)),
    ("(a|a)", "a", ("arms", SAME, SAME, SAME)),
    ("(a|a)", "a", ("arms", (SAME, SAME))),
    ("(a|a)", "a", ("each", SAME, SAME)),
    ("(a|a)", "a", ("from", 0, SAME)),
    ("(a|a)", "a", ("arms", SAME, ["same"])),
    ("(a|a)", "a", ["arms", SAME, SAME]),
    ("a", "(a&a)", ("arms", SAME, SAME)),
    ("a", "(a&a)", ("into", 0, SAME)),
    ("a", "(a&a)", ("each", SAME)),
    ("(a&b)", "b", ("from", True, SAME)),
    ("(b&a)", "b", ("from", False, SAME)),
    ("(a&b)", "b", ("from", "1", SAME)),
    ("(a&b)", "b", ("from", -1, SAME)),
    ("(a&b)", "b", ("from", 2, SAME)),
    ("(a&b)", "b", ("from", 0, SAME)),
    ("(a&b)", "b", ("from", None, SAME)),
    ("(a&b)", "b", ("from", (1,), SAME)),
    ("(a&b)", "b", ("from", 1)),
    ("(a&b)", "b", ("from", 1, SAME, SAME)),
    ("(a&b)", "b", ("from", SAME, 1)),
    ("(a&b)", "b", ("into", 1, SAME)),
    ("b", "(a|b)", ("into", True, SAME)),
    ("b", "(a|b)", ("into", -1, SAME)),
    ("b", "(a|b)", ("into", 2, SAME)),
    ("b", "(a|b)", ("into", 10 ** 59, SAME)),
    ("b", "(a|b)", ("into", -10 ** 59, SAME)),
    ("b", "(a|b)", ("from", 1, SAME)),
    ("b", "(a|b)", ("into", 1, 1, SAME)),
)
ANY_THINGS = (None, True, False, 0, 1, -1, "", "same", "arms", (), [], ("same",), ["same"], (1,), ("",), (None,),
              ("arms", "each"), ("from", 0), ("into", 0, None), (("same",),), ([],), (["same"],), ("from", [0], SAME))


class WayOfTest(unittest.TestCase):
    def check(self, one, other):
        way = way_of(one, other)
        if is_below(one, other):
            self.assertIs(type(way), tuple)
            self.assertTrue(walks(one, other, way))
            self.assertIs(way_stands(one, other, way), True)
        else:
            self.assertIsNone(way)
        return way

    def test_by_hand(self):
        for one, other, way in WAYS:
            self.assertIsNotNone(self.check(read_back(one), read_back(other)))
        self.assertEqual(way_of("a", "a"), SAME)
        self.assertEqual(way_of(("down", "a", "b"), "b"), ("from", 1, SAME))
        self.assertEqual(way_of("a", ("up", "b", "c", "a")), ("into", 2, SAME))
        self.assertIsNone(way_of("a", "b"))
        self.assertIsNone(way_of(("up", "a", "b"), ("down", "a", "b")))

    def test_small_words(self):
        for one, other in itertools.product(SMALL, repeat=2):
            self.check(one, other)

    def test_pairs_both_ways_about(self):
        for one, other in word_pairs(150, 1) + word_pairs(50, 2, "abcdefghijkl"):
            self.check(one, other)
            self.check(other, one)

    def test_same_word(self):
        for word in SMALL + great_words():
            self.assertTrue(walks(word, word, way_of(word, word)))

    def test_told_words(self):
        for one, other in told_pairs(put_in):
            for low, high in ((one, other), (other, one), (("down", one, other), ("up", other, one))):
                self.check(low, high)
                self.check(word_turned(low), word_turned(high))

    def test_each_step_is_told_somewhere(self):
        steps = set()
        for one, other in word_pairs(60, 1):
            steps.update(self.names_in(way_of(one, other) or ()))
        self.assertEqual(steps, {"same", "arms", "each", "from", "into"})

    def names_in(self, way):
        inner = [self.names_in(step) for step in way[1:] if isinstance(step, tuple)]
        return set(way[:1]).union(*inner)

    def test_kinds(self):
        for one, other in word_pairs(60, 1):
            self.assertTrue(only_told_kinds(way_of(one, other)))


class WayStandsTest(unittest.TestCase):
    def test_ways(self):
        for one, other, way in WAYS:
            with self.subTest(one=one, other=other, way=way):
                self.assertIs(way_stands(read_back(one), read_back(other), way), True)

    def test_no_ways(self):
        for one, other, thing in NO_WAYS:
            with self.subTest(one=one, other=other, thing=thing):
                self.assertIs(way_stands(read_back(one), read_back(other), thing), False)

    def test_ways_of_other_pairs(self):
        pairs = {(read_back(one), read_back(other)) for one, other, thing in WAYS + NO_WAYS}
        for (low, high), (one, other, way) in itertools.product(sorted(pairs, key=repr), WAYS + NO_WAYS):
            self.assertIs(way_stands(low, high, way), walks(low, high, way))

    def test_any_things(self):
        for one, other in word_pairs(20, 6):
            for thing in ANY_THINGS:
                self.assertIs(way_stands(one, other, thing), walks(one, other, thing))

    def test_one_thing_put_otherwise(self):
        stand = fall = 0
        for one, other in [(read_back(pair[0]), read_back(pair[1])) for pair in WAYS] + word_pairs(60, 1):
            way = way_of(one, other)
            for thing in one_change(way, (SAME, ("from", 0, SAME), ("into", 1, SAME))) if way else ():
                wanted = walks(one, other, thing)
                self.assertIs(way_stands(one, other, thing), wanted)
                stand, fall = stand + wanted, fall + (not wanted)
        # Some ways show it still, such as one with like arms turned about.
        self.assertGreater(stand, 100)
        self.assertGreater(fall, 10000)

    def test_told_words_with_one_thing_put_otherwise(self):
        one = put_in(deep_word(12), tuple((letter, deep_word(6)) for letter in "abc"))
        other = put_in(deep_word(12), tuple((letter, ("up", deep_word(6), "z")) for letter in "abc"))
        way = way_of(one, other)
        things = one_change(way)
        self.assertGreater(len(things), 100)
        for thing in things[::3]:
            self.assertIs(way_stands(one, other, thing), walks(one, other, thing))

    def test_all_where_it_is_not_so(self):
        for one, other in word_pairs(60, 7):
            if not is_below(one, other):
                for way in (way_of(other, one), way_of(one, one), SAME, *[row[2] for row in WAYS]):
                    self.assertIs(way_stands(one, other, way), False)

    def test_thirty_deep_and_two_thousand_things(self):
        deep = SAME
        for k in range(29):
            deep = ("from", 0, deep)
        for one, other in (("a", "a"), (deep_word(12), "a"), (wide_word(12), wide_word(12))):
            for thing in (deep, [deep], ("arms", *[SAME] * 999), ("each", *[0] * 1998), ("same",) * 1999, [SAME] * 999):
                self.assertIs(way_stands(one, other, thing), False)
        one = ("up", *["a"] * 12)
        self.assertIs(way_stands(one, "a", ("arms", *[SAME] * 12)), True)
        self.assertIs(way_stands(one, "a", ("arms", *[SAME] * 11)), False)
        self.assertIs(way_stands(one, "a", ("arms", *[SAME] * 13)), False)
        self.assertIs(way_stands(one, "a", ("arms", *[SAME] * 11, ["same"])), False)

    def test_stays_as_it_was(self):
        things = [["arms", ["same"], SAME], ("arms", ["same"], SAME), [[], [SAME]], ("arms", SAME, SAME)]
        before = copy.deepcopy(things)
        first = [way_stands(("up", "a", "a"), "a", thing) for thing in things]
        self.assertEqual(first, [False, False, False, True])
        self.assertEqual([way_stands(("up", "a", "a"), "a", thing) for thing in things], first)
        self.assertEqual(things, before)


if __name__ == "__main__":
    unittest.main()
