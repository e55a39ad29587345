"""Ways: steps from the two deeds alone that show that a word is below another one."""

from eitherboth.below import Parts
from eitherboth.kinds import DOWN, UP, is_whole

SAME = "same"
ARMS = "arms"
EACH = "each"
FROM = "from"
INTO = "into"


def way_of(one, other):
    """A way that shows that the one is below the other, None where it isn't so."""
    parts = Parts()
    first = parts.number_of(one)
    second = parts.number_of(other)
    if not parts.below(first, second):
        return None
    return way_between(parts, first, second, {})


def way_between(parts, one, other, ways):
    """A way for two parts of which the one is below the other; those found already are in the dict ways."""
    if one == other:
        return (SAME,)
    pair = (one, other)
    if pair not in ways:
        ways[pair] = first_step(parts, one, other, ways)
    return ways[pair]


def first_step(parts, one, other, ways):
    """A way for two unlike parts of which the one is below the other."""
    # A step to one arm goes ahead of a step to all of them, so that the way stays small.
    at = parts.arm_below(one, other)
    if at is not None:
        return (FROM, at, way_between(parts, parts.arms[one][at], other, ways))
    at = parts.arm_above(one, other)
    if at is not None:
        return (INTO, at, way_between(parts, one, parts.arms[other][at], ways))
    if parts.signs[one] == UP:
        inner = [way_between(parts, arm, other, ways) for arm in parts.arms[one]]
        return (ARMS, *inner)
    inner = [way_between(parts, one, arm, ways) for arm in parts.arms[other]]
    return (EACH, *inner)


def way_stands(one, other, thing):
    """True where the thing, whatever it is, is a way that shows that the one is below the other."""
    parts = Parts()
    waiting = [(parts.number_of(one), parts.number_of(other), thing)]
    while waiting:
        first, second, step = waiting.pop()
        claims = claims_of(parts, first, second, step)
        if claims is None:
            return False
        waiting.extend(claims)
    return True


def claims_of(parts, one, other, step):
    """What is left to look at where the step stands for these two parts, None where it doesn't."""
    if not isinstance(step, tuple) or len(step) == 0:
        return None
    if step[0] == SAME:
        return [] if len(step) == 1 and one == other else None
    if step[0] == ARMS and parts.signs[one] == UP:
        return all_claims([(arm, other) for arm in parts.arms[one]], step)
    if step[0] == EACH and parts.signs[other] == DOWN:
        return all_claims([(one, arm) for arm in parts.arms[other]], step)
    if step[0] == FROM and parts.signs[one] == DOWN:
        return one_claim([(arm, other) for arm in parts.arms[one]], step)
    if step[0] == INTO and parts.signs[other] == UP:
        return one_claim([(one, arm) for arm in parts.arms[other]], step)
    return None


def all_claims(pairs, step):
    """Each pair with the way that the step has for it, None where it has not just so many."""
    if len(step) != len(pairs) + 1:
        return None
    return [(one, other, way) for (one, other), way in zip(pairs, step[1:])]


def one_claim(pairs, step):
    """The pair that the step names by its number, with the step's way, None where it names none."""
    if len(step) != 3 or not is_whole(step[1]) or not 0 <= step[1] < len(pairs):
        return None
    one, other = pairs[step[1]]
    return [(one, other, step[2])]
