"""Rows of words that behave like letters."""

from eitherboth.below import Parts
from eitherboth.kinds import DOWN, UP

# Their texts: ((a|(b&(a|c)))&(b|c)), ((a|(c&(a|b)))&(b|c)), ((a|c)&(b|(a&(b|c)))), ((a|c)&(b|(c&(a|b)))).
FOUR_WORDS = (
    ("down", ("up", "a", ("down", "b", ("up", "a", "c"))), ("up", "b", "c")),
    ("down", ("up", "a", ("down", "c", ("up", "a", "b"))), ("up", "b", "c")),
    ("down", ("up", "a", "c"), ("up", "b", ("down", "a", ("up", "b", "c")))),
    ("down", ("up", "a", "c"), ("up", "b", ("down", "c", ("up", "a", "b")))),
)


def like_letters(row):
    """None where the words of a row behave like letters, else the number and the deed of the first that doesn't."""
    if len(row) == 1:
        return None
    parts = Parts()
    numbers = [parts.number_of(word) for word in row]
    for at, number in enumerate(numbers):
        others = numbers[:at] + numbers[at + 1:]
        if parts.below(number, parts.number_together(UP, others)):
            return (at, UP)
        if parts.below(parts.number_together(DOWN, others), number):
            return (at, DOWN)
    return None


def four_words():
    """Four words in three letters that behave like letters."""
    return FOUR_WORDS
