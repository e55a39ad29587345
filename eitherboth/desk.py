"""A desk: it keeps words and orders by names, is told rows and answers each."""

from eitherboth.among import bar_of, words_for
from eitherboth.below import is_below
from eitherboth.breaks import break_of
from eitherboth.errors import NoName, NoRoom, NoRow, NoText
from eitherboth.kinds import is_letter
from eitherboth.orders import order_turned, worth_of
from eitherboth.rows import steps_down
from eitherboth.shortest import are_alike, short_of
from eitherboth.texts import number_names, order_text, read_order, read_word
from eitherboth.words import is_word, letters_of, places_of, put_in, text_of, word_turned

MOST_SIGNS = 8
MOST_PLACES = 12
MOST_THINGS = 16

# What stands behind the first word of each row: "new" a name; "word", "order" and "either" a name by which one stands,
# which is handed on in its stead; "text" a word of the row; "rest" all that is left; "things" all words that are left.
FORMS = {
    "word": ("new", "text"),
    "order": ("new", "rest"),
    "put": ("new", "word", "text", "word"),
    "turn": ("new", "either"),
    "short": ("new", "word"),
    "show": ("either",),
    "below": ("word", "word"),
    "alike": ("word", "word"),
    "break": ("word", "word"),
    "worth": ("word", "order", "things"),
    "lives": ("order",),
    "steps": ("order",),
    "names": (),
}


def is_name(text):
    """True where a text is one to eight letters."""
    return 1 <= len(text) <= MOST_SIGNS and all(is_letter(sign) for sign in text)


def words_of_row(row):
    """The words of a row that is one of the desk's, what the last of its form takes put together."""
    if not isinstance(row, str):
        raise NoRow("this is no text")
    words = row.split(" ", 2) if row.startswith("order ") else row.split(" ")
    if "" in words or words[0] not in FORMS:
        raise NoRow("this is none of the rows")
    if words[0] == "worth":
        words = words[:3] + [words[3:]]
    form = FORMS[words[0]]
    if len(words) != len(form) + 1:
        raise NoRow("the row has too few words or too many")
    for kind, part in zip(form, words[1:]):
        if kind in ("new", "word", "order", "either") and not is_name(part):
            raise NoRow("this is no name: " + part)
    return words


def with_blanks(things):
    """The texts of some things with blanks between."""
    return " ".join([str(thing) for thing in things])


def yes_or_no(truth):
    """The answer to what is so or not."""
    return "yes" if truth else "no"


def make_word(text):
    """The word that a row tells."""
    return read_word(text)


def make_order(text):
    """The order that a row tells."""
    return read_order(text)


def make_put(word, letter, other):
    """A word with another one put in for a letter."""
    if not is_letter(letter):
        raise NoText("this is no letter: " + letter)
    return put_in(word, ((letter, other),))


def make_turned(thing):
    """A word or an order turned over."""
    return word_turned(thing) if is_word(thing) else order_turned(thing)


def make_short(word):
    """The short word of a word."""
    return short_of(word)


def tell_text(thing):
    """The text of a word or of an order."""
    return text_of(thing) if is_word(thing) else order_text(thing)


def tell_below(one, other):
    """Whether a word is below another one."""
    return yes_or_no(is_below(one, other))


def tell_alike(one, other):
    """Whether two words are alike."""
    return yes_or_no(are_alike(one, other))


def tell_break(one, other):
    """A break of two words, its order and the things of their letters."""
    found = break_of(one, other)
    if found is None:
        return "none"
    order, choice = found
    return with_blanks([order_text(order), "by"] + [f"{letter}:{thing}" for letter, thing in choice])


def tell_worth(word, order, things):
    """The worth of a word by the things of its letters in turn."""
    letters = letters_of(word)
    names = number_names(len(order))
    if len(things) != len(letters) or not all(thing in names for thing in things):
        raise NoText("a thing of the order is wanted for each letter of the word")
    choice = tuple([(letter, names[thing]) for letter, thing in zip(letters, things)])
    return str(worth_of(order, word, choice))


def tell_lives(order):
    """Words that form an order among the words, or its bar."""
    words = words_for(order)
    if words is None:
        return "no " + with_blanks(bar_of(order))
    return "yes " + with_blanks([text_of(word) for word in words])


def tell_steps(order):
    """How many steps down each thing of an order has."""
    return with_blanks(steps_down(order))


# What makes the word or the order that stands by the new name then, and what tells the answer.
MAKERS = {"word": make_word, "order": make_order, "put": make_put, "turn": make_turned, "short": make_short}
TELLERS = {
    "show": tell_text,
    "below": tell_below,
    "alike": tell_alike,
    "break": tell_break,
    "worth": tell_worth,
    "lives": tell_lives,
    "steps": tell_steps,
}


class Desk:
    """Keeps words and orders by names."""

    def __init__(self):
        self.kept = {}

    def say(self, row):
        """The answer to a row."""
        words = words_of_row(row)
        first = words[0]
        given = [self.handed_on(kind, part) for kind, part in zip(FORMS[first], words[1:])]
        if first == "names":
            return with_blanks(sorted(self.kept)) if self.kept else "none"
        if first in TELLERS:
            tell = TELLERS[first]
            return tell(*given)
        name, *more = given
        make = MAKERS[first]
        return self.keep(name, make(*more))

    def handed_on(self, kind, part):
        """What a part of a row is handed on as: what stands by it where it is the name of this, else itself."""
        if kind not in ("word", "order", "either"):
            return part
        if part not in self.kept:
            raise NoName("nothing stands by this name: " + part)
        thing = self.kept[part]
        if (kind == "word" and not is_word(thing)) or (kind == "order" and is_word(thing)):
            raise NoName("what stands by this name is no " + kind + ": " + part)
        return thing

    def keep(self, name, thing):
        """Lets a word or an order stand by a name from now on."""
        if is_word(thing):
            if places_of(thing) > MOST_PLACES:
                raise NoRoom("the word has more than twelve places")
        elif len(thing) > MOST_THINGS:
            raise NoRoom("the order has more than sixteen things")
        self.kept[name] = thing
        return "ok"
