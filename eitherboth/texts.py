"""Texts: words and orders read from them, orders written to them."""

from eitherboth.errors import NoText
from eitherboth.kinds import DOWN, UP, is_letter
from eitherboth.orders import is_order, numbers_in

DEEP = 30


def read_word(text):
    """The word of a text."""
    if not isinstance(text, str):
        raise NoText("this is no text")
    word, at = word_from(text, 0, DEEP)
    if at != len(text):
        raise NoText("something stands behind the word")
    return word


def word_from(text, at, deep):
    """The word that a text has from a place on, with so many brackets at most, and the place behind it."""
    sign = text[at:at + 1]
    if is_letter(sign):
        return sign, at + 1
    if sign != "(" or deep == 0:
        raise NoText("no word stands here, or with too many brackets")
    arm, at = word_from(text, at + 1, deep - 1)
    arms = [arm]
    between = text[at:at + 1]
    if between not in ("|", "&"):
        raise NoText("no deed stands behind the first arm")
    while text[at:at + 1] == between:
        arm, at = word_from(text, at + 1, deep - 1)
        arms.append(arm)
    if text[at:at + 1] != ")":
        raise NoText("the bracket is not closed")
    deed = UP if between == "|" else DOWN
    return (deed, *arms), at + 1


def number_names(many):
    """The numbers below this one by the texts of their digits, a dict."""
    return {str(number): number for number in range(many)}


def order_text(order):
    """The text of an order."""
    rows = [",".join([str(thing) for thing in numbers_in(row)]) for row in order]
    return " ".join(rows)


def read_order(text):
    """The order of a text."""
    if not isinstance(text, str):
        raise NoText("this is no text")
    rows = text.split(" ")
    names = number_names(len(rows))
    order = tuple([read_row(row, names) for row in rows])
    # Numbers that stand twice or out of their places are told by the text that the order should have.
    if not is_order(order) or order_text(order) != text:
        raise NoText("this is no text of an order")
    return order


def read_row(row, names):
    """The number that has a binary part for each number of a row, by their names."""
    found = 0
    for name in row.split(","):
        if name not in names:
            raise NoText("no number of a thing stands here")
        found |= 1 << names[name]
    return found
