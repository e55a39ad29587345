"""Orders that share out or shift, the two pictures, and what words come to in sharing orders."""

from eitherboth.kinds import LETTERS, UP, is_letter
from eitherboth.orders import full_bounds, is_at_or_below

SIDE = "side"
THREE = "three"


def threes_in(order):
    """All rows of three things of an order."""
    every = list(range(len(order)))
    return [(x, y, z) for x in every for y in every for z in every]


def shared_at(bounds, x, y, z):
    """True where going down from the "up" of y and z to x comes to the same as doing so from each of them."""
    return bounds.down(x, bounds.up(y, z)) == bounds.up(bounds.down(x, y), bounds.down(x, z))


def shares_out(order):
    """True where a full order shares out."""
    bounds = full_bounds(order)
    return all(shared_at(bounds, x, y, z) for x, y, z in threes_in(order))


def shifts(order):
    """True where a full order shifts."""
    bounds = full_bounds(order)
    return all(shared_at(bounds, x, y, z) for x, y, z in threes_in(order) if is_at_or_below(order, y, x))


def picture_of(order):
    """One of the two pictures in a full order, None where it shares out."""
    bounds = full_bounds(order)
    # An order that doesn't shift holds "side", one that shifts and doesn't share out holds "three".
    for x, y, z in threes_in(order):
        if side_at(bounds, x, y, z):
            return picture_at(bounds, SIDE, x, y, z)
    for x, y, z in threes_in(order):
        if three_at(bounds, x, y, z):
            return picture_at(bounds, THREE, x, y, z)
    return None


def picture_at(bounds, name, x, y, z):
    """The picture of this name with these three things between its low and its high one."""
    return (name, bounds.down(x, z), x, y, z, bounds.up(x, z))


def same_bounds(bounds, x, y, z):
    """True where x and z have the same least above and the same greatest below as y and z."""
    return bounds.up(x, z) == bounds.up(y, z) and bounds.down(x, z) == bounds.down(y, z)


def side_at(bounds, x, y, z):
    """True where x is below y, and the two can't be told apart by their bounds with z."""
    return x != y and is_at_or_below(bounds.above, x, y) and same_bounds(bounds, x, y, z)


def three_at(bounds, x, y, z):
    """True where each two of three unlike things, rising, have the same bounds."""
    return x < y < z and same_bounds(bounds, x, y, z) and same_bounds(bounds, y, z, x)


def has_within(letters, others):
    """True where a text of letters has all of the others in it."""
    return all(letter in letters for letter in others)


def least_sets(texts):
    """Some texts of letters, in the order of texts, each once, but those that have another one within them."""
    every = sorted(set(texts))
    kept = []
    for text in every:
        if not any(text != other and has_within(text, other) for other in every):
            kept.append(text)
    return tuple(kept)


def book_of_up(books):
    """The book of an "up" whose arms have these books."""
    return least_sets([text for book in books for text in book])


def book_of_down(books):
    """The book of a "down" whose arms have these books."""
    found = books[0]
    for book in books[1:]:
        found = least_sets(["".join(sorted(set(text + more))) for text in found for more in book])
    return found


def book_of(word):
    """The book of a word: the sets of letters whose greatest belows come together to its worth in sharing orders."""
    if is_letter(word):
        return (word,)
    books = [book_of(arm) for arm in word[1:]]
    return book_of_up(books) if word[0] == UP else book_of_down(books)


def share_break(one, other):
    """Letters that, put as 1, make the one 1 and the other 0; None where the one is at or below the other."""
    others = book_of(other)
    for text in book_of(one):
        if not any(has_within(text, held) for held in others):
            return tuple(text)
    return None


def all_books(many):
    """All books of words in the first so many letters, in the order of tuples."""
    found = {(letter,): True for letter in LETTERS[:many]}
    waiting = list(found)
    while waiting:
        book = waiting.pop()
        for other in list(found):
            for made in (book_of_up([book, other]), book_of_down([book, other])):
                if made not in found:
                    found[made] = True
                    waiting.append(made)
    return tuple(sorted(found))
