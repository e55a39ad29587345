"""Breaks: finite full orders, with choices of things, in which a word's worth is not at or below another one's."""

from eitherboth.below import Parts
from eitherboth.errors import NoRoom
from eitherboth.kinds import DOWN, UP, is_letter, is_whole
from eitherboth.orders import Bounds, is_at_or_below, is_order
from eitherboth.words import letters_of

ROOM = 300


def break_of(one, other):
    """A break of two words, None where the one is below the other."""
    parts = Parts()
    first = parts.number_of(one)
    second = parts.number_of(other)
    if parts.below(first, second):
        return None
    lower = lower_sets(parts)
    found = closed_sets(parts, lower)
    # The least closed set of a letter is that of all parts below it.
    letters = {sign: found[lower[number]] for number, sign in enumerate(parts.signs) if is_letter(sign)}
    choice = tuple([(letter, letters[letter]) for letter in sorted(letters)])
    return (order_within(list(found)), choice)


def numbers_put_together(numbers):
    """A set of unlike numbers as one number that has the binary part 2 to the power of j for each j of them."""
    return sum([1 << number for number in numbers])


def lower_sets(parts):
    """For each part the set of all parts below it."""
    every = list(range(len(parts.signs)))
    return [numbers_put_together([low for low in every if parts.below(low, high)]) for high in every]


def closed_sets(parts, lower):
    """All closed sets of the parts, a dict of their numbers in the order in which they were come to."""
    arms = [numbers_put_together(sorted(set(row))) for row in parts.arms]
    found = {0: 0}
    waiting = [0]
    while waiting:
        held = waiting.pop()
        for under in lower:
            more = closed_by(parts.signs, arms, held | under)
            if more in found:
                continue
            if len(found) == ROOM:
                raise NoRoom("more than three hundred sets of parts are closed")
            found[more] = len(found)
            waiting.append(more)
    return found


def closed_by(signs, arms, held):
    """The least closed set that has what is held: some parts and, of each of them, all parts below it."""
    # Arms have lesser numbers than what they are arms of, so that going through the parts once is enough.
    for number, sign in enumerate(signs):
        inner = held & arms[number]
        if sign == UP and inner == arms[number]:
            held |= 1 << number
        if sign == DOWN and inner != 0:
            held |= 1 << number
    return held


def order_within(sets):
    """The order of some sets by lying within."""
    rows = []
    for held in sets:
        rows.append(numbers_put_together([at for at, around in enumerate(sets) if held & around == held]))
    return tuple(rows)


def break_stands(one, other, thing):
    """True where the thing, whatever it is, is a break of the two words."""
    if not isinstance(thing, tuple) or len(thing) != 2:
        return False
    order, choice = thing
    if not is_order(order) or not is_choice(choice, len(order)):
        return False
    things = {letter: number for letter, number in choice}
    if not all(letter in things for letter in letters_of((UP, one, other))):
        return False
    bounds = Bounds(order)
    if bounds.lack() is not None:
        return False
    return not is_at_or_below(order, bounds.worth(one, things), bounds.worth(other, things))


def is_choice(thing, many):
    """True where the thing, whatever it is, is a choice of things of an order of so many things."""
    if not isinstance(thing, tuple) or not all(is_choice_row(row, many) for row in thing):
        return False
    return all(row[0] < later[0] for row, later in zip(thing, thing[1:]))


def is_choice_row(thing, many):
    """True where the thing, whatever it is, is a letter with a thing of an order of so many things."""
    if not isinstance(thing, tuple) or len(thing) != 2:
        return False
    return is_letter(thing[0]) and is_whole(thing[1]) and 0 <= thing[1] < many
