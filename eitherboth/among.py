"""Which finite orders live among the words: words for their things, or a bar."""

from eitherboth.below import Parts
from eitherboth.kinds import DOWN, UP, is_whole
from eitherboth.orders import bounds_within, is_at_or_below
from eitherboth.rounds import greatest_words, settled_words
from eitherboth.rows import rows_without_ring
from eitherboth.shortest import Shorts
from eitherboth.words import is_word

ROOM = 8
FOUR = "four"


def bars_up(bounds, x, y, z):
    """True where x and y have the same least above as x and z, and x has another one with their greatest below."""
    high = bounds.up(x, y)
    return high == bounds.up(x, z) and high != bounds.up(x, bounds.down(y, z))


def bars_down(bounds, x, y, z):
    """True where x and y have the same greatest below as x and z, and x has another one with their least above."""
    low = bounds.down(x, y)
    return low == bounds.down(x, z) and low != bounds.down(x, bounds.up(y, z))


def bars_four(bounds, x, y, z, t):
    """True where x and y go below the least above of z and t only together, and below neither z nor t."""
    low = bounds.down(x, y)
    high = bounds.up(z, t)
    if not is_at_or_below(bounds.above, low, high):
        return False
    claims = ((x, high), (y, high), (low, z), (low, t))
    return not any(is_at_or_below(bounds.above, one, other) for one, other in claims)


def is_thing_of(bounds, thing):
    """True where the thing, whatever it is, is the number of one of the order's things."""
    return is_whole(thing) and 0 <= thing < len(bounds.above)


def is_bar(bounds, thing):
    """True where the thing, whatever it is, is a bar."""
    if not isinstance(thing, tuple) or not 4 <= len(thing) <= 5:
        return False
    if not all(is_thing_of(bounds, number) for number in thing[1:]):
        return False
    if len(thing) == 5:
        return thing[0] == FOUR and bars_four(bounds, thing[1], thing[2], thing[3], thing[4])
    if thing[0] == UP:
        return bars_up(bounds, thing[1], thing[2], thing[3])
    return thing[0] == DOWN and bars_down(bounds, thing[1], thing[2], thing[3])


def bar_in(bounds):
    """A bar, None where there is none."""
    every = list(range(len(bounds.above)))
    threes = [(x, y, z) for x in every for y in every for z in every]
    for x, y, z in threes:
        if bars_up(bounds, x, y, z):
            return (UP, x, y, z)
        if bars_down(bounds, x, y, z):
            return (DOWN, x, y, z)
    for x, y, z in threes:
        for t in every:
            if bars_four(bounds, x, y, z, t):
                return (FOUR, x, y, z, t)
    return None


def bar_of(order):
    """A bar of a full order, None where there is none."""
    return bar_in(bounds_within(order, ROOM))


def bar_stands(order, thing):
    """True where the thing, whatever it is, is a bar of a full order."""
    return is_bar(bounds_within(order, ROOM), thing)


def words_for(order):
    """Short words for the things of a full order that form it among the words, None where there is a bar."""
    bounds = bounds_within(order, ROOM)
    if bar_in(bounds) is not None:
        return None
    # Without a bar there is no ring, neither in the order nor in it turned over, so that nothing is refused here.
    shorts = Shorts()
    tops = [shorts.number_of(word) for word in greatest_words(order)]
    return settled_words(shorts, rows_without_ring(bounds), tops)


def words_stand(order, thing):
    """True where the thing, whatever it is, is a tuple of words for the things of a full order that form it."""
    bounds = bounds_within(order, ROOM)
    if not isinstance(thing, tuple) or len(thing) != len(order):
        return False
    if not all(is_word(word) for word in thing):
        return False
    parts = Parts()
    return form_order(bounds, parts, [parts.number_of(word) for word in thing])


def form_order(bounds, parts, numbers):
    """True where parts, one for each thing, are unlike one another and have the bounds of the things by both deeds."""
    for one, first in enumerate(numbers):
        for other, second in enumerate(numbers[:one]):
            high = parts.number_by((UP, first, second))
            low = parts.number_by((DOWN, first, second))
            if parts.alike(first, second):
                return False
            if not parts.alike(high, numbers[bounds.up(one, other)]):
                return False
            if not parts.alike(low, numbers[bounds.down(one, other)]):
                return False
    return True
