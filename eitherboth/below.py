"""When a word is below another one in every full order."""

from eitherboth.kinds import DOWN, UP, is_letter


class Parts:
    """The parts of some words, numbered from 0 with arms ahead of what they are arms of, and which is below which."""

    def __init__(self):
        self.numbers = {}
        self.signs = []
        self.arms = []
        self.settled = {}

    def number_of(self, word):
        """The number of a word, which is put in with all its parts where it is not there yet."""
        if is_letter(word):
            return self.number_by((word,))
        # The arms' numbers stand for the arms, so that a key stays flat however deep its word is.
        arms = [self.number_of(arm) for arm in word[1:]]
        return self.number_by((word[0], *arms))

    def number_by(self, key):
        """The number of the part with this letter, or with this deed and the numbers of these arms."""
        if key not in self.numbers:
            self.numbers[key] = len(self.numbers)
            self.signs.append(key[0])
            self.arms.append(key[1:])
        return self.numbers[key]

    def number_together(self, deed, arms):
        """The number of the part of this deed with these arms' numbers; one arm alone stands for it."""
        return arms[0] if len(arms) == 1 else self.number_by((deed, *arms))

    def below(self, one, other):
        """True where part number one is below part number other."""
        if one == other:
            return True
        # Parts stand at several places, so each pair of them is looked at once only.
        pair = (one, other)
        if pair not in self.settled:
            self.settled[pair] = self.comes_below(one, other)
        return self.settled[pair]

    def alike(self, one, other):
        """True where each of two parts is below the other."""
        return self.below(one, other) and self.below(other, one)

    def comes_below(self, one, other):
        """True where one of two unlike parts is below the other by what holds of their arms."""
        if self.signs[one] == UP:
            return all(self.below(arm, other) for arm in self.arms[one])
        if self.signs[other] == DOWN:
            return all(self.below(one, arm) for arm in self.arms[other])
        return self.arm_below(one, other) is not None or self.arm_above(one, other) is not None

    def arm_below(self, one, other):
        """The first arm's number, from 0, of a "down" one that is below the other, None where there is none."""
        if self.signs[one] == DOWN:
            for at, arm in enumerate(self.arms[one]):
                if self.below(arm, other):
                    return at
        return None

    def arm_above(self, one, other):
        """The first arm's number, from 0, of an "up" other that the one is below, None where there is none."""
        if self.signs[other] == UP:
            for at, arm in enumerate(self.arms[other]):
                if self.below(one, arm):
                    return at
        return None


def is_below(one, other):
    """True where the one's worth is at or below the other's in every full order by every choice."""
    parts = Parts()
    return parts.below(parts.number_of(one), parts.number_of(other))
