"""The shortest form: the one short word that a word is alike to."""

from eitherboth.below import Parts
from eitherboth.kinds import UP, is_letter
from eitherboth.words import joined_texts


class Shorts(Parts):
    """The parts of some words, and the short part that each of them is alike to."""

    def __init__(self):
        super().__init__()
        self.shorts = {}
        self.texts = {}
        self.words = {}

    def text_by(self, number):
        """The text of a part."""
        if number not in self.texts:
            texts = [self.text_by(arm) for arm in self.arms[number]]
            self.texts[number] = joined_texts(self.signs[number], texts) if texts else self.signs[number]
        return self.texts[number]

    def word_by(self, number):
        """The word that a part is."""
        if number not in self.words:
            arms = [self.word_by(arm) for arm in self.arms[number]]
            self.words[number] = (self.signs[number], *arms) if arms else self.signs[number]
        return self.words[number]

    def short(self, number):
        """The number of the short part that a part is alike to."""
        if number not in self.shorts:
            self.shorts[number] = self.made_short(number)
        return self.shorts[number]

    def made_short(self, number):
        """The number of the short part that a part is alike to, come to by its arms."""
        deed = self.signs[number]
        if is_letter(deed):
            return number
        arms = self.outer_arms(deed, self.arms_left(deed, number))
        return self.number_together(deed, sorted(arms, key=self.text_by))

    def arms_left(self, deed, number):
        """The short arms of a part of this deed, those of its own deed opened, when no arm gives way any more."""
        left = []
        waiting = [self.short(arm) for arm in self.arms[number]]
        while waiting:
            arm = waiting.pop()
            if self.signs[arm] == deed:
                waiting.extend(self.arms[arm])
                continue
            # What the arms come to stays alike to the part, so each is held against the part itself throughout.
            inner = [within for within in self.arms[arm] if self.adds_nothing(deed, within, number)]
            if inner:
                waiting.append(inner[0])
            else:
                left.append(arm)
        return left

    def adds_nothing(self, deed, arm, number):
        """True where the arm is below the part by "up", where the part is below the arm by "down"."""
        return self.below(arm, number) if deed == UP else self.below(number, arm)

    def outer_arms(self, deed, arms):
        """Some short arms of a part of this deed, each once, but those that add nothing to another one."""
        # Alike ones that are short are the same part, so that they are one here already.
        every = sorted(set(arms))
        kept = []
        for arm in every:
            if not any(arm != other and self.adds_nothing(deed, arm, other) for other in every):
                kept.append(arm)
        return kept


def are_alike(one, other):
    """True where each of two words is below the other."""
    parts = Parts()
    return parts.alike(parts.number_of(one), parts.number_of(other))


def is_short(word):
    """True where the word is short."""
    # There is just one short word that a word is alike to, so a short word is the one that it is alike to.
    shorts = Shorts()
    number = shorts.number_of(word)
    return shorts.short(number) == number


def short_of(word):
    """The short word that a word is alike to."""
    shorts = Shorts()
    return shorts.word_by(shorts.short(shorts.number_of(word)))
