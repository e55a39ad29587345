"""The refusals: one base, and the others each straight under it."""


class WordError(ValueError):
    """Any refusal of the program."""


class NoFull(WordError):
    """An order that is not full, where a full one is wanted."""


class NoLetter(WordError):
    """A letter of a word that has no row in the choice."""


class NoRoom(WordError):
    """More than the bounds allow."""


class NoEnd(WordError):
    """A ring, where the words fall for ever."""


class NoText(WordError):
    """What is no text of a word, of an order or of what a row wants there."""


class NoRow(WordError):
    """What is no row that a desk knows."""


class NoName(WordError):
    """A name by which nothing stands that the row wants."""
