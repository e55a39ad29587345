"""What the program needs in common about the kinds of values."""

UP = "up"
DOWN = "down"
LETTERS = "abcdefghijklmnopqrstuvwxyz"


def is_whole(thing):
    """True where the thing is a whole number: an int that is no truth."""
    return isinstance(thing, int) and not isinstance(thing, bool)


def is_letter(thing):
    """True where the thing is a text of one sign from a to z."""
    return isinstance(thing, str) and len(thing) == 1 and "a" <= thing <= "z"


def is_deed(thing):
    """True where the thing is one of the two deeds."""
    return isinstance(thing, str) and (thing == UP or thing == DOWN)


def deed_turned(deed):
    """The other one of the two deeds."""
    return DOWN if deed == UP else UP


def has_deed_and_arms(thing):
    """True where the thing is a tuple of a deed and two things or more behind it."""
    return isinstance(thing, tuple) and len(thing) >= 3 and is_deed(thing[0])
