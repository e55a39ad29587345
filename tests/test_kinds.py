"""Points 2 and 4: whole numbers, letters, deeds."""

import unittest

from eitherboth.kinds import deed_turned, has_deed_and_arms, is_deed, is_letter, is_whole

OTHERS = (None, (), [], ("a",), ["a"], "", "ab", "A", "Z", "0", " ", "`", "{", "~", "up ", "UP")


class KindsTest(unittest.TestCase):
    def test_whole_numbers(self):
        for thing in (0, 1, -1, 10 ** 60 - 1, -(10 ** 60 - 1)):
            self.assertIs(is_whole(thing), True)

    def test_no_whole_numbers(self):
        for thing in OTHERS + (True, False, "1", "a", "up", (1,), [1]):
            self.assertIs(is_whole(thing), False)

    def test_letters(self):
        for letter in "abcdefghijklmnopqrstuvwxyz":
            self.assertIs(is_letter(letter), True)

    def test_no_letters(self):
        for thing in OTHERS + (True, False, 0, 97, "up", "down"):
            self.assertIs(is_letter(thing), False)

    def test_deeds(self):
        for thing in ("up", "down"):
            self.assertIs(is_deed(thing), True)
        for thing in OTHERS + (True, 0, "a", "u", "Up", "updown", ("up",), ["up"]):
            self.assertIs(is_deed(thing), False)

    def test_deed_turned(self):
        self.assertEqual(deed_turned("up"), "down")
        self.assertEqual(deed_turned("down"), "up")

    def test_deed_and_arms(self):
        self.assertIs(has_deed_and_arms(("up", 1, None)), True)
        self.assertIs(has_deed_and_arms(("down", (), [], "")), True)
        for thing in OTHERS + (1, "up", ("up",), ("up", "a"), ("a", "b", "c"), ["up", "a", "b"], "upp"):
            self.assertIs(has_deed_and_arms(thing), False)


if __name__ == "__main__":
    unittest.main()
