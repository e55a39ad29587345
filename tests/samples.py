"""Words and other things that the tests share, and ways to look at them that use nothing of the package."""

import itertools
import random

DEEDS = ("up", "down")


def splits(places):
    """All rows of two or more numbers, from 1 on, that come to so many places."""
    rows = [row for many in range(2, places + 1) for row in itertools.product(range(1, places), repeat=many)]
    return [row for row in rows if sum(row) == places]


def words_of_places(places, letters):
    """All words of just so many places in these letters."""
    if places == 1:
        return list(letters)
    words = []
    for row in splits(places):
        for arms in itertools.product(*[words_of_places(inner, letters) for inner in row]):
            words.extend((deed, *arms) for deed in DEEDS)
    return words


def small_words():
    """All words of one to four places in two letters."""
    return [word for places in range(1, 5) for word in words_of_places(places, "ab")]


def chance_word(chance, places, letters):
    """A word of just so many places."""
    if places == 1:
        return chance.choice(letters)
    arms = []
    left = places
    while left:
        # The first arm leaves at least one place, so that there are two arms.
        take = chance.randint(1, left if arms else left - 1)
        arms.append(chance_word(chance, take, letters))
        left -= take
    return (chance.choice(DEEDS), *arms)


def great_words():
    """Words of up to twelve places, the same ones each time."""
    chance = random.Random(12)
    words = [chance_word(chance, places, "abcxyz") for places in range(1, 13) for k in range(12)]
    return words + [deep_word(12), wide_word(12), ("down", wide_word(6), wide_word(6))]


def deep_word(places):
    """A word with as many arms within one another as its places allow, the deeds in turn."""
    word = "a"
    for k in range(1, places):
        word = (DEEDS[k % 2], word, "abc"[k % 3])
    return word


def wide_word(places):
    """A word of one deed and as many arms as places."""
    return ("up", *["abcdefghij"[k % 10] for k in range(places)])


def sample_words():
    """All words that a test of words goes through."""
    return small_words() + great_words()


def strewn(thing):
    """The thing and all that is within it, one after another, as often as it stands."""
    found = [thing]
    if isinstance(thing, (tuple, list)):
        for inner in thing:
            found.extend(strewn(inner))
    return found


def only_told_kinds(thing):
    """True where the thing is built of whole numbers, texts, truths, None and tuples only."""
    return all(type(inner) in (int, str, bool, type(None), tuple) for inner in strewn(thing))


def put_otherwise(thing, news):
    """Every thing that comes when one part of the thing, at any depth, becomes one of the news."""
    made = list(news)
    if isinstance(thing, tuple):
        for at, inner in enumerate(thing):
            made.extend(thing[:at] + (new,) + thing[at + 1:] for new in put_otherwise(inner, news))
    return made


def read_back(text):
    """The word of a text, read sign by sign."""
    word, rest = read_one(text)
    assert rest == ""
    return word


def read_one(text):
    """The word that a text begins with, and what stands behind it."""
    if text[0] != "(":
        return text[0], text[1:]
    arm, rest = read_one(text[1:])
    sign, arms = rest[0], [arm]
    while rest[0] == sign:
        arm, rest = read_one(rest[1:])
        arms.append(arm)
    assert rest[0] == ")"
    return ({"|": "up", "&": "down"}[sign], *arms), rest[1:]
