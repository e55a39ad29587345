"""What hangs on what in a finite order: single things, least rows, rings, steps down."""

from eitherboth.errors import NoEnd
from eitherboth.orders import bounds_within, is_at_or_below, numbers_in

ROOM = 10


def next_belows(bounds):
    """For each single thing, rising, the one thing next below it."""
    found = {}
    for thing, row in enumerate(bounds.beneath):
        under = numbers_in(row ^ 1 << thing)
        # The least above of all things below a thing is this thing again, unless it is single.
        top = bounds.up_all(under) if under else thing
        if top != thing:
            found[thing] = top
    return found


def rows_of(bounds, nexts, thing):
    """All least rows of a thing, a tuple in the order of tuples; nexts has what is next below each single thing."""
    singles = [single for single in nexts if not is_at_or_below(bounds.above, thing, single)]
    # None of these is at or above the thing, so that one alone never reaches it.
    rows = [tuple([singles[at] for at in numbers_in(chosen)]) for chosen in range(1, 1 << len(singles))]
    return tuple(sorted([row for row in rows if is_least_row(bounds, nexts, thing, row)]))


def is_least_row(bounds, nexts, thing, row):
    """True where a row of single things, none at or above the thing, is a least row of it."""
    if not reaches(bounds, row, thing):
        return False
    for at, single in enumerate(row):
        if reaches(bounds, row[:at] + (nexts[single],) + row[at + 1:], thing):
            return False
    return True


def reaches(bounds, row, thing):
    """True where the least above of a row's things is at or above the thing."""
    return is_at_or_below(bounds.above, thing, bounds.up_all(row))


def all_rows(bounds):
    """For each thing of an order all its least rows."""
    nexts = next_belows(bounds)
    return [rows_of(bounds, nexts, thing) for thing in range(len(bounds.above))]


def rows_without_ring(bounds):
    """For each thing of an order, which must have no ring, all its least rows."""
    if ring_in(hanging(bounds)) is not None:
        raise NoEnd("there is a ring of things that hang on one another")
    return all_rows(bounds)


def hung_on(rows):
    """The things that stand in some least rows, a rising list, each once."""
    return sorted({thing for row in rows for thing in row})


def hanging(bounds):
    """For each single thing, rising, the list of those that it hangs on, rising."""
    nexts = next_belows(bounds)
    return {single: hung_on(rows_of(bounds, nexts, single)) for single in nexts}


def ring_in(hangs):
    """A ring of what hangs on what, a dict of lists, None where there is none."""
    left = list(hangs)
    many = len(left) + 1
    while len(left) < many:
        many = len(left)
        left = [thing for thing in left if any(other in left for other in hangs[thing])]
    if not left:
        return None
    # Each thing that is left hangs on one that is left, so that going on and on comes to one a second time.
    walked = []
    thing = left[0]
    while thing not in walked:
        walked.append(thing)
        thing = [other for other in hangs[thing] if other in left][0]
    return tuple(walked[walked.index(thing):])


def single_things(order):
    """The single things of a full order, a rising tuple."""
    return tuple(next_belows(bounds_within(order, ROOM)))


def least_rows(order, thing):
    """All least rows of a thing of a full order, in the order of tuples."""
    bounds = bounds_within(order, ROOM)
    return rows_of(bounds, next_belows(bounds), thing)


def hanging_pairs(order):
    """All pairs of a single thing and another one that it hangs on, rising."""
    hangs = hanging(bounds_within(order, ROOM))
    return tuple([(thing, other) for thing in hangs for other in hangs[thing]])


def ring_of(order):
    """Things each of which hangs on the next one, the last on the first, None where there are none."""
    return ring_in(hanging(bounds_within(order, ROOM)))


def steps_down(order):
    """How many steps down each thing of a full order has."""
    rows = rows_without_ring(bounds_within(order, ROOM))
    steps = {}
    return tuple([steps_of(rows, thing, steps) for thing in range(len(order))])


def steps_of(rows, thing, steps):
    """How many steps down a thing has by the least rows of all; those found already are in the dict steps."""
    if thing not in steps:
        below = [steps_of(rows, other, steps) for other in hung_on(rows[thing])]
        steps[thing] = 1 + max(below) if below else 0
    return steps[thing]
