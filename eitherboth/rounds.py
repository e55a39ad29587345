"""The words of the rounds of a finite order, and the least and the greatest words that they come to."""

from eitherboth.errors import NoRoom
from eitherboth.kinds import DOWN, LETTERS, UP
from eitherboth.orders import bounds_within, numbers_in, order_turned
from eitherboth.rows import all_rows, hung_on, rows_without_ring
from eitherboth.shortest import Shorts, short_of
from eitherboth.words import places_of, word_turned

ROOM = 8
PLACES = 80


def first_words(shorts, order):
    """For each thing the part that is the "down" of the letters of all things at or above it, a list of numbers."""
    letters = [shorts.number_of(letter) for letter in LETTERS[:len(order)]]
    return [shorts.number_together(DOWN, [letters[thing] for thing in numbers_in(row)]) for row in order]


def lowered(shorts, top, rows, words):
    """The short part that the "down" of a top and, for each row, the "up" of its things' words is alike to."""
    ups = [shorts.number_together(UP, [words[thing] for thing in row]) for row in rows]
    return shorts.short(shorts.number_together(DOWN, [top, *ups]))


def counted_places(shorts, top, rows, words):
    """The places of a top and of the words of the rows' things, each as often as it stands in the rows."""
    standing = [words[thing] for row in rows for thing in row]
    return sum([places_of(shorts.word_by(number)) for number in [top, *standing]])


def round_words(order, rounds):
    """The words of a round for the things of a full order, a tuple of short words."""
    rows = all_rows(bounds_within(order, ROOM))
    shorts = Shorts()
    tops = first_words(shorts, order)
    words = [shorts.short(top) for top in tops]
    for number in range(1, rounds + 1):
        if any(counted_places(shorts, top, held, words) > PLACES for top, held in zip(tops, rows)):
            raise NoRoom(f"the words of round {number} come of more than {PLACES} places")
        words = [lowered(shorts, top, held, words) for top, held in zip(tops, rows)]
    return tuple([shorts.word_by(number) for number in words])


def settled_words(shorts, rows, tops):
    """The short words, one for each thing, that the rounds from these tops come to; there must be no ring."""
    found = {}
    return tuple([shorts.word_by(settled(shorts, rows, tops, thing, found)) for thing in range(len(tops))])


def settled(shorts, rows, tops, thing, found):
    """The short part that the rounds come to for a thing; those found already are in the dict found."""
    if thing not in found:
        words = {other: settled(shorts, rows, tops, other, found) for other in hung_on(rows[thing])}
        found[thing] = lowered(shorts, tops[thing], rows[thing], words)
    return found[thing]


def least_words(order):
    """The least words of the things of a full order without a ring."""
    rows = rows_without_ring(bounds_within(order, ROOM))
    shorts = Shorts()
    return settled_words(shorts, rows, first_words(shorts, order))


def greatest_words(order):
    """The greatest words of the things of a full order that has no ring turned over."""
    # Arms stand in the order of their texts, which is another one when a word is turned over.
    return tuple([short_of(word_turned(word)) for word in least_words(order_turned(order))])
