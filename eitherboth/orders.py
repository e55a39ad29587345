"""Finite orders: their kinds, least aboves and greatest belows, the worths of words, what some things make."""

from eitherboth.errors import NoFull, NoLetter, NoRoom
from eitherboth.kinds import DOWN, UP, is_letter, is_whole


def numbers_in(row):
    """The numbers j of the binary parts 2 to the power of j of a number, a rising list."""
    numbers = []
    while row:
        lowest = row & -row
        numbers.append(lowest.bit_length() - 1)
        row -= lowest
    return numbers


def is_row_of(thing, many):
    """True where the thing is a whole number that has binary parts for so many things at most."""
    return is_whole(thing) and thing >= 0 and thing.bit_length() <= many


def goes_on(rows):
    """True where what is at or below a thing is at or below all that this one is."""
    for row in rows:
        for other in numbers_in(row):
            if rows[other] | row != row:
                return False
    return True


def is_order(thing):
    """True where the thing, whatever it is, is an order."""
    if not isinstance(thing, tuple) or len(thing) == 0:
        return False
    if not all(is_row_of(row, len(thing)) for row in thing):
        return False
    if not all(is_at_or_below(thing, number, number) for number in range(len(thing))):
        return False
    # Two things at or below one another would have the same row, as each is at or below all that the other is.
    return len(set(thing)) == len(thing) and goes_on(thing)


def is_at_or_below(order, one, other):
    """True where thing one is at or below thing other."""
    return order[one] >> other & 1 == 1


def order_turned(order):
    """The order turned over."""
    turned = [0] * len(order)
    for thing, row in enumerate(order):
        for other in numbers_in(row):
            turned[other] |= 1 << thing
    return tuple(turned)


class Bounds:
    """The least aboves and the greatest belows of an order."""

    def __init__(self, order):
        self.above = order
        self.beneath = order_turned(order)
        # What two things are both at or below is just what their least above, if there is one, is at or below;
        # so this one is found by its row, and the greatest below likewise in the order turned over.
        self.ups = {row: thing for thing, row in enumerate(self.above)}
        self.downs = {row: thing for thing, row in enumerate(self.beneath)}

    def up(self, one, other):
        """The least above of two things, None where there is none."""
        return self.ups.get(self.above[one] & self.above[other])

    def down(self, one, other):
        """The greatest below of two things, None where there is none."""
        return self.downs.get(self.beneath[one] & self.beneath[other])

    def up_all(self, things):
        """The least above of one or more things of a full order."""
        found = things[0]
        for thing in things[1:]:
            found = self.up(found, thing)
        return found

    def down_all(self, things):
        """The greatest below of one or more things of a full order."""
        found = things[0]
        for thing in things[1:]:
            found = self.down(found, thing)
        return found

    def lack(self):
        """The first lack of the order, None where it is full."""
        for one, (row, turned) in enumerate(zip(self.above, self.beneath)):
            for other in range(one + 1, len(self.above)):
                if row & self.above[other] not in self.ups:
                    return (UP, one, other)
                if turned & self.beneath[other] not in self.downs:
                    return (DOWN, one, other)
        return None

    def worth(self, word, things):
        """The worth of a word in a full order, with the things of its letters in a dict."""
        if is_letter(word):
            if word not in things:
                raise NoLetter("a letter of the word has no row: " + word)
            return things[word]
        worths = [self.worth(arm, things) for arm in word[1:]]
        return self.up_all(worths) if word[0] == UP else self.down_all(worths)


def full_bounds(order):
    """The bounds of an order that must be full."""
    bounds = Bounds(order)
    if bounds.lack() is not None:
        raise NoFull("the order is not full")
    return bounds


def bounds_within(order, most):
    """The bounds of an order that must be full and have at most so many things."""
    bounds = full_bounds(order)
    if len(order) > most:
        raise NoRoom(f"the order has more than {most} things")
    return bounds


def first_lack(order):
    """None where the order is full, else the deed and the two things, i less than j, that first lack it."""
    return Bounds(order).lack()


def up_of(order, one, other):
    """The least above of two things of a full order."""
    return full_bounds(order).up(one, other)


def down_of(order, one, other):
    """The greatest below of two things of a full order."""
    return full_bounds(order).down(one, other)


def worth_of(order, word, choice):
    """The worth of a word in a full order by a choice of things for its letters."""
    return full_bounds(order).worth(word, {letter: thing for letter, thing in choice})


def made_by(order, things):
    """What some things of a full order make by least aboves and greatest belows, a rising tuple."""
    bounds = full_bounds(order)
    made = {}
    waiting = list(things)
    while waiting:
        thing = waiting.pop()
        if thing in made:
            continue
        for known in made:
            waiting.append(bounds.up(thing, known))
            waiting.append(bounds.down(thing, known))
        made[thing] = True
    return tuple(sorted(made))
