"""Words and other things that the tests share, and ways to look at them that use nothing of the package."""

import functools
import itertools
import random

DEEDS = ("up", "down")


def splits(places):
    """All rows of two or more numbers, from 1 on, that come to so many places."""
    rows = [row for many in range(2, places + 1) for row in itertools.product(range(1, places), repeat=many)]
    return [row for row in rows if sum(row) == places]


def words_of_places(places, letters):
    """All words of just so many places in these letters."""
    if places == 1:
        return list(letters)
    words = []
    for row in splits(places):
        for arms in itertools.product(*[words_of_places(inner, letters) for inner in row]):
            words.extend((deed, *arms) for deed in DEEDS)
    return words


def small_words():
    """All words of one to four places in two letters."""
    return [word for places in range(1, 5) for word in words_of_places(places, "ab")]


def chance_word(chance, places, letters):
    """A word of just so many places."""
    if places == 1:
        return chance.choice(letters)
    arms = []
    left = places
    while left:
        # The first arm leaves at least one place, so that there are two arms.
        take = chance.randint(1, left if arms else left - 1)
        arms.append(chance_word(chance, take, letters))
        left -= take
    return (chance.choice(DEEDS), *arms)


def great_words():
    """Words of up to twelve places, the same ones each time."""
    chance = random.Random(12)
    words = [chance_word(chance, places, "abcxyz") for places in range(1, 13) for k in range(12)]
    return words + [deep_word(12), wide_word(12), ("down", wide_word(6), wide_word(6))]


def deep_word(places):
    """A word with as many arms within one another as its places allow, the deeds in turn."""
    word = "a"
    for k in range(1, places):
        word = (DEEDS[k % 2], word, "abc"[k % 3])
    return word


def wide_word(places):
    """A word of one deed and as many arms as places."""
    return ("up", *["abcdefghij"[k % 10] for k in range(places)])


def sample_words():
    """All words that a test of words goes through."""
    return small_words() + great_words()


def within(bottom, deep, wrap):
    """The bottom with so many wraps around it."""
    for k in range(deep):
        bottom = wrap(bottom)
    return bottom


def strewn(thing):
    """The thing and all that is within it, one after another, as often as it stands."""
    found = [thing]
    if isinstance(thing, (tuple, list)):
        for inner in thing:
            found.extend(strewn(inner))
    return found


def only_told_kinds(thing):
    """True where the thing is built of whole numbers, texts, truths, None and tuples only."""
    return all(type(inner) in (int, str, bool, type(None), tuple) for inner in strewn(thing))


def put_otherwise(thing, news):
    """Every thing that comes when one part of the thing, at any depth, becomes one of the news."""
    made = list(news)
    if isinstance(thing, tuple):
        for at, inner in enumerate(thing):
            made.extend(thing[:at] + (new,) + thing[at + 1:] for new in put_otherwise(inner, news))
    return made


def read_back(text):
    """The word of a text, read sign by sign."""
    word, rest = read_one(text)
    assert rest == ""
    return word


def read_one(text):
    """The word that a text begins with, and what stands behind it."""
    if text[0] != "(":
        return text[0], text[1:]
    arm, rest = read_one(text[1:])
    sign, arms = rest[0], [arm]
    while rest[0] == sign:
        arm, rest = read_one(rest[1:])
        arms.append(arm)
    assert rest[0] == ")"
    return ({"|": "up", "&": "down"}[sign], *arms), rest[1:]


def order_of(many, pairs):
    """The order of so many things in which the first of each pair is below the second, and what follows from it."""
    rows = [1 << k for k in range(many)]
    for low, high in pairs:
        rows[low] |= 1 << high
    for middle in range(many):
        for k in range(many):
            if rows[k] >> middle & 1:
                rows[k] |= rows[middle]
    return tuple(rows)


def chain(many):
    """Things one above another, 0 lowest."""
    return order_of(many, [(k, k + 1) for k in range(many - 1)])


def sets_order(letters):
    """All sets of so many letters, by lying within."""
    many = 1 << letters
    return order_of(many, [(k, m) for k in range(many) for m in range(many) if k & m == k])


def product(first, second):
    """All pairs of things, a pair at or below another where both of its things are."""
    wide = len(second)
    every = range(len(first) * wide)
    return order_of(len(every), [
        (k, m) for k in every for m in every if first[k // wide] >> m // wide & 1 and second[k % wide] >> m % wide & 1
    ])


def flat(many):
    """A lowest and a highest thing, and so many between of which none is below another."""
    return order_of(many + 2, [(0, many + 1)] + [(0, k) for k in range(1, many + 1)]
                    + [(k, many + 1) for k in range(1, many + 1)])


def renumbered(order, numbers):
    """The same order with thing k called numbers[k]."""
    every = range(len(order))
    return order_of(len(order), [(numbers[k], numbers[m]) for k in every for m in every if order[k] >> m & 1])


SIDE = order_of(5, [(0, 1), (1, 2), (2, 4), (0, 3), (3, 4)])
THREE = flat(3)
# Two things below two others, once with a highest and a lowest one around them, once with one of these, once bare.
CROSS = order_of(6, [(0, 1), (0, 2), (1, 3), (1, 4), (2, 3), (2, 4), (3, 5), (4, 5)])
CROSS_LOW = order_of(5, [(0, 1), (0, 2), (1, 3), (1, 4), (2, 3), (2, 4)])
CROSS_HIGH = order_of(5, [(0, 2), (0, 3), (1, 2), (1, 3), (2, 4), (3, 4)])
CROSS_BARE = order_of(4, [(0, 2), (0, 3), (1, 2), (1, 3)])


def full_orders():
    """Full orders of up to twenty-four things, the same ones each time."""
    orders = [chain(many) for many in range(1, 9)] + [flat(many) for many in range(2, 7)]
    orders += [SIDE, THREE, sets_order(2), sets_order(3), sets_order(4), chain(16), chain(24)]
    orders += [product(chain(2), SIDE), product(chain(3), THREE), product(chain(4), sets_order(2))]
    orders.append(product(chain(4), flat(4)))
    chance = random.Random(8)
    return orders + [renumbered(order, chance.sample(range(len(order)), len(order))) for order in orders]


def chance_order(chance, many, dense):
    """An order of so many things; the denser, the more pairs are below one another."""
    numbers = chance.sample(range(many), many)
    return order_of(many, [
        (numbers[k], numbers[m]) for k in range(many) for m in range(k + 1, many) if chance.random() < dense
    ])


def other_orders():
    """Orders that are not full, of up to twenty-four things, the same ones each time."""
    orders = [(1, 2), (1, 2, 4), CROSS, CROSS_LOW, CROSS_HIGH, CROSS_BARE]
    orders += [order_of(3, [(0, 1), (0, 2)]), order_of(3, [(0, 2), (1, 2)]), tuple(1 << k for k in range(24))]
    orders += [product(CROSS, chain(2)), product(CROSS, chain(4)), product(SIDE, CROSS_BARE)]
    chance = random.Random(16)
    some = [chance_order(chance, many, dense) for many in range(2, 25) for dense in (0.1, 0.3, 0.6)]
    return orders + [order for order in some if lack_by_looking(order) is not None]


def looks_like_order(thing):
    """Point 7 said out of the document, for any thing."""
    if type(thing) is not tuple or len(thing) < 1:
        return False
    if not all(type(row) is int and 0 <= row < 2 ** len(thing) for row in thing):
        return False
    above = [{j for j in range(len(thing)) if row & 2 ** j} for row in thing]
    for i, row in enumerate(above):
        if i not in row:
            return False
        for j in row:
            if (i != j and i in above[j]) or not above[j] <= row:
                return False
    return True


def least_of(order, things):
    """The one of some things that is at or below each of them, None where there is none."""
    found = [thing for thing in things if all(order[thing] >> other & 1 for other in things)]
    return found[0] if found else None


def greatest_of(order, things):
    """The one of some things that each of them is at or below, None where there is none."""
    found = [thing for thing in things if all(order[other] >> thing & 1 for other in things)]
    return found[0] if found else None


def bound_by_looking(order, deed, one, other):
    """The least above of two things by "up", their greatest below by "down", None where there is none."""
    every = range(len(order))
    if deed == "up":
        return least_of(order, [k for k in every if order[one] >> k & 1 and order[other] >> k & 1])
    return greatest_of(order, [k for k in every if order[k] >> one & 1 and order[k] >> other & 1])


def lack_by_looking(order):
    """The first lack of an order by point 8."""
    for i in range(len(order)):
        for j in range(i + 1, len(order)):
            for deed in DEEDS:
                if bound_by_looking(order, deed, i, j) is None:
                    return (deed, i, j)
    return None


def is_full_at_once(order):
    """True where each two things have both bounds, told in good time of some hundred things."""
    every = range(len(order))
    under = [sum(1 << k for k in every if order[k] >> m & 1) for m in every]
    for rows in (order, under):
        # The least of what two things share is the one with the most above it; only this one can be their bound.
        by_most = sorted(every, key=lambda k: -rows[k].bit_count())
        for i in every:
            for j in range(i + 1, len(order)):
                shared = rows[i] & rows[j]
                first = next((k for k in by_most if shared >> k & 1), None)
                if first is None or rows[first] & shared != shared:
                    return False
    return True


def worth_by_looking(order, word, things):
    """The worth of a word by point 9, with the things of the letters in a dict."""
    if isinstance(word, str):
        return things[word]
    worths = [worth_by_looking(order, arm, things) for arm in word[1:]]
    every = range(len(order))
    if word[0] == "up":
        return least_of(order, [k for k in every if all(order[worth] >> k & 1 for worth in worths)])
    return greatest_of(order, [k for k in every if all(order[k] >> worth & 1 for worth in worths)])


def below_by_rules(one, other, known=None):
    """Point 10 said out of the document: True where one of its five cases holds."""
    known = {} if known is None else known
    if (one, other) not in known:
        known[one, other] = (
            (isinstance(one, str) and one == other)
            or (one[0] == "up" and all(below_by_rules(arm, other, known) for arm in one[1:]))
            or (other[0] == "down" and all(below_by_rules(one, arm, known) for arm in other[1:]))
            or (one[0] == "down" and any(below_by_rules(arm, other, known) for arm in one[1:]))
            or (other[0] == "up" and any(below_by_rules(one, arm, known) for arm in other[1:]))
        )
    return known[one, other]


def walks(one, other, way):
    """Point 11 said out of the document: True where the thing is a way that shows that the one is below the other."""
    if type(way) is not tuple or not way or type(way[0]) is not str:
        return False
    name, rest = way[0], way[1:]
    if name == "same":
        return rest == () and one == other
    if name == "arms" and one[0] == "up":
        return len(rest) == len(one) - 1 and all(walks(arm, other, step) for arm, step in zip(one[1:], rest))
    if name == "each" and other[0] == "down":
        return len(rest) == len(other) - 1 and all(walks(one, arm, step) for arm, step in zip(other[1:], rest))
    if name not in ("from", "into") or len(rest) != 2 or type(rest[0]) is not int:
        return False
    if name == "from" and one[0] == "down" and rest[0] in range(len(one) - 1):
        return walks(one[1 + rest[0]], other, rest[1])
    if name == "into" and other[0] == "up" and rest[0] in range(len(other) - 1):
        return walks(one, other[1 + rest[0]], rest[1])
    return False


def letters_in(word):
    """All letters of a word, a set."""
    return {inner for inner in strewn(word) if isinstance(inner, str)} - set(DEEDS)


def breaks_it(one, other, thing):
    """Point 12 said out of the document: True where the thing is a break of the two words."""
    if type(thing) is not tuple or len(thing) != 2:
        return False
    order, choice = thing
    if not looks_like_order(order) or type(choice) is not tuple:
        return False
    if not all(type(row) is tuple and len(row) == 2 for row in choice):
        return False
    letters = [letter for letter, number in choice]
    if not all(type(letter) is str and len(letter) == 1 and "a" <= letter <= "z" for letter in letters):
        return False
    if letters != sorted(set(letters)) or not letters_in(one) | letters_in(other) <= set(letters):
        return False
    if not all(type(number) is int and 0 <= number < len(order) for letter, number in choice):
        return False
    if not is_full_at_once(order):
        return False
    low, high = (worth_by_looking(order, word, dict(choice)) for word in (one, other))
    return not order[low] >> high & 1


def word_parts(word):
    """All parts of a word, a set."""
    if isinstance(word, str):
        return {word}
    return {word}.union(*[word_parts(arm) for arm in word[1:]])


def parts_below_all(parts, held, known):
    """All parts that are below the "up" of those that are held, by point 10."""
    held = sorted(held, key=repr)
    if not held:
        return frozenset()
    together = held[0] if len(held) == 1 else ("up", *held)
    return frozenset(part for part in parts if below_by_rules(part, together, known))


def closed_by_trying(one, other):
    """How many sets of parts of the two words are closed, each set of parts looked at."""
    parts = sorted(word_parts(one) | word_parts(other), key=repr)
    known = {}
    tries = [held for many in range(len(parts) + 1) for held in itertools.combinations(parts, many)]
    return sum(parts_below_all(parts, held, known) == set(held) for held in tries)


def closed_by_joining(one, other, most):
    """How many sets of parts of the two words are closed, or, where there are more than most, some more than these."""
    parts = sorted(word_parts(one) | word_parts(other), key=repr)
    known = {}
    under = {part: parts_below_all(parts, [part], known) for part in parts}
    found = {frozenset()}
    for part in parts:
        for held in list(found):
            # A part below another one that is held adds nothing, so that the "up" has few arms.
            tops = [top for top in held if not any(under[top] < under[above] for above in held)]
            found.add(parts_below_all(parts, [*tops, part], known))
            if len(found) > most:
                return len(found)
    return len(found)


def one_change(thing, news=()):
    """Every thing that comes when one part of the thing, at any depth, is put otherwise, left out or put in."""
    made = list(news)
    if type(thing) is int:
        made += [thing + 1, thing - 1, -1 - thing, str(thing), None, (thing,), [thing], 10 ** 59]
        made += [bool(thing)] if thing in (0, 1) else [True]
    elif isinstance(thing, str):
        made += ["", thing + " ", thing.upper(), 0, None, (thing,), [thing]]
        made += [name for name in ("same", "arms", "each", "from", "into", "a", "z") if name != thing]
    elif isinstance(thing, tuple):
        made += [list(thing), (), None, 0, True, "", (thing,)]
        for at, inner in enumerate(thing):
            before, behind = thing[:at], thing[at + 1:]
            made += [before + behind, before + (inner, inner) + behind, before + (("same",), inner) + behind]
            made += [before + (0, inner) + behind, before + behind[:1] + (inner,) + behind[1:]]
            made += [before + (new,) + behind for new in one_change(inner, news)]
    return made


def word_pairs(many, seed, letters="abcd"):
    """Pairs of words of up to twelve places, the same ones each time, many of them below one another."""
    chance = random.Random(seed)
    pairs = []
    for k in range(many):
        some = letters[:chance.randint(1, len(letters))]
        one, other = (chance_word(chance, chance.randint(1, 6), some) for deed in DEEDS)
        pairs += [(one, other), (("down", one, "a"), ("up", other, one)), (("down", one, other), ("up", "b", other))]
        pairs.append(tuple(chance_word(chance, chance.randint(7, 12), some) for deed in DEEDS))
    return pairs


def told_pairs(put_in):
    """Pairs of words of more than twelve places that put_in tells, the same ones each time."""
    chance = random.Random(21)
    pairs = []
    for k in range(25):
        words = [chance_word(chance, 12, "ab") for m in range(4)]
        rows = (("a", words[2]), ("b", words[3]))
        pairs += [(put_in(words[0], rows), put_in(words[1], rows)), (put_in(words[0], rows), words[2])]
    deep = put_in(deep_word(12), tuple((letter, deep_word(12)) for letter in "abc"))
    wide = put_in(wide_word(12), tuple((letter, ("down", "a", deep_word(11))) for letter in "abcdefghij"))
    return pairs + [(deep, deep_word(12)), (deep_word(12), deep), (deep, wide), (wide, deep), (wide, wide)]


def at_parts(word, change):
    """Every word that comes when one part of a word, at any depth, becomes one of the words that change tells of it."""
    made = list(change(word))
    if isinstance(word, tuple):
        for at in range(1, len(word)):
            made += [word[:at] + (new,) + word[at + 1:] for new in at_parts(word[at], change)]
    return made


def made_alike(chance, word, letters):
    """The word put another way, alike to it, by one change at a part that chance finds."""
    kind = chance.choice(("turned", "brackets", "twice", "taken in", "deep"))
    if kind == "deep" and isinstance(word, tuple):
        at = chance.randrange(1, len(word))
        return word[:at] + (made_alike(chance, word[at], letters),) + word[at + 1:]
    if kind == "turned" and isinstance(word, tuple):
        return (word[0], *chance.sample(word[1:], len(word) - 1))
    if kind == "brackets" and len(word) > 3:
        at = chance.randrange(1, len(word) - 1)
        return word[:at] + ((word[0], *word[at:at + 2]),) + word[at + 2:]
    if kind == "twice":
        return (chance.choice(DEEDS), word, word) if isinstance(word, str) else (*word, chance.choice(word[1:]))
    deed, other = chance.sample(DEEDS, 2)
    return (deed, (other, chance_word(chance, chance.randint(1, 3), letters), word), word)


def alike_words(word, many, seed, letters="abc"):
    """So many words that are alike to a word, each made of the one ahead of it, the same ones each time."""
    chance = random.Random(f"{seed} {word}")
    words = []
    for k in range(many):
        word = made_alike(chance, word, letters)
        words.append(word)
    return words


def plain_text(word):
    """The text of a word by point 5."""
    if isinstance(word, str):
        return word
    return "(" + {"up": "|", "down": "&"}[word[0]].join(plain_text(arm) for arm in word[1:]) + ")"


def looks_short(word, known):
    """Point 13 said out of the document: True where the word is short."""
    if isinstance(word, str):
        return True
    deed, arms = word[0], word[1:]
    other = {"up": "down", "down": "up"}[deed]

    def under(one, two):
        return below_by_rules(one, two, known) if deed == "up" else below_by_rules(two, one, known)

    if not all((isinstance(arm, str) or arm[0] == other) and looks_short(arm, known) for arm in arms):
        return False
    if [plain_text(arm) for arm in arms] != sorted(plain_text(arm) for arm in arms):
        return False
    if any(under(one, two) for one, two in itertools.permutations(arms, 2)):
        return False
    return not any(under(inner, word) for arm in arms if isinstance(arm, tuple) for inner in arm[1:])


def alike_by_rules(one, other, known):
    """Point 13 said out of the document: True where each of two words is below the other."""
    return below_by_rules(one, other, known) and below_by_rules(other, one, known)


def turned_by_looking(order):
    """The order turned over."""
    every = range(len(order))
    return tuple(sum(1 << k for k in every if order[k] >> m & 1) for m in every)


def same_but_for_numbers(order):
    """One order for all that are the same but for the numbers of their things."""
    every = range(len(order))
    kinds = [(row.bit_count(), under.bit_count()) for row, under in zip(order, turned_by_looking(order))]
    for k in range(3):
        seen = [(kinds[k], sorted(kinds[m] for m in every if order[k] >> m & 1),
                 sorted(kinds[m] for m in every if order[m] >> k & 1)) for k in every]
        kinds = [sorted(seen).index(kind) for kind in seen]
    groups = [[k for k in every if kinds[k] == kind] for kind in sorted(set(kinds))]
    tries = []
    for groups_turned in itertools.product(*[itertools.permutations(group) for group in groups]):
        things = [thing for group in groups_turned for thing in group]
        place = {thing: at for at, thing in enumerate(things)}
        tries.append(tuple(sum(1 << place[m] for m in every if order[k] >> m & 1) for k in things))
    return min(tries)


@functools.cache
def every_full_order(many):
    """All full orders of so many things, one of those that are the same but for the numbers of their things."""
    if many <= 2:
        return [chain(many)]
    found = set()
    for order in every_full_order(many - 1):
        # Without a thing next above the lowest a full order is full still, so each comes of one that is less by it.
        lowest = order.index((1 << many - 1) - 1)
        for above in range(1, 1 << many - 1):
            if above >> lowest & 1 or any(above >> k & 1 and order[k] & ~above for k in range(many - 1)):
                continue
            rows = [row | 1 << many - 1 if k == lowest else row for k, row in enumerate(order)]
            more = (*rows, above | 1 << many - 1)
            if is_full_at_once(more):
                found.add(same_but_for_numbers(more))
    return sorted(found)


def small_full_orders(most):
    """All full orders of up to so many things, but for their numbers, numbered in some way."""
    chance = random.Random(most)
    orders = [order for many in range(1, most + 1) for order in every_full_order(many)]
    return [renumbered(order, chance.sample(range(len(order)), len(order))) for order in orders]


def points_and_lines():
    """Seven points and seven lines, three points on each, with a lowest and a highest thing around them."""
    lines = [[k, (k + 1) % 7, (k + 3) % 7] for k in range(7)]
    pairs = [(1 + point, 8 + line) for line, points in enumerate(lines) for point in points]
    return order_of(16, pairs + [(0, 1 + k) for k in range(7)] + [(8 + k, 15) for k in range(7)])


class Table:
    """The bounds of a full order, each looked up once by point 8."""

    def __init__(self, order):
        every = range(len(order))
        self.order = order
        self.every = every
        self.up = {(k, m): bound_by_looking(order, "up", k, m) for k in every for m in every}
        self.down = {(k, m): bound_by_looking(order, "down", k, m) for k in every for m in every}

    def below(self, one, other):
        return bool(self.order[one] >> other & 1)

    def top(self, things):
        return functools.reduce(lambda one, other: self.up[one, other], things)


def singles_by_looking(table):
    """Point 18 said out of the document: the single things, rising."""
    lowest = [k for k in table.every if all(table.below(k, m) for m in table.every)]
    made = {
        table.up[k, m] for k in table.every for m in table.every if table.up[k, m] not in (k, m)
    }
    return [k for k in table.every if k not in lowest and k not in made]


def least_rows_by_looking(table, thing):
    """Point 18 said out of the document, each row tried: the least rows of a thing."""
    order = table.order
    under = turned_by_looking(order)
    others = [k for k in table.every if not table.below(thing, k)]
    singles = singles_by_looking(table)
    reaching = [
        row for many in range(1, len(others) + 1) for row in itertools.combinations(others, many)
        if table.below(thing, table.top(row))
    ]
    masks = [sum(1 << k for k in row) for row in reaching]
    found = []
    for row, mask in zip(reaching, masks):
        if len(row) < 2 or not set(row) <= set(singles):
            continue
        beneath = functools.reduce(lambda one, other: one | other, [under[k] for k in row])
        if all(mask & other == mask for other in masks if other & ~beneath == 0):
            found.append(row)
    return tuple(sorted(found))


def hanging_by_looking(table):
    """Point 19 said out of the document: all pairs of a single thing and one that it hangs on."""
    return tuple(sorted({
        (thing, other) for thing in singles_by_looking(table)
        for row in least_rows_by_looking(table, thing) for other in row
    }))


def come_to(pairs, thing):
    """All things that can be come to from a thing by one step or more along the pairs."""
    found, waiting = set(), [thing]
    while waiting:
        here = waiting.pop()
        for other in [high for low, high in pairs if low == here and high not in found]:
            found.add(other)
            waiting.append(other)
    return found


def has_ring(pairs):
    """True where some thing can be come to from itself along the pairs."""
    return any(thing in come_to(pairs, thing) for thing, other in pairs)


def looks_like_word(thing):
    """Point 4 said out of the document, for any thing."""
    if type(thing) is str:
        return len(thing) == 1 and "a" <= thing <= "z"
    if type(thing) is not tuple or len(thing) < 3 or type(thing[0]) is not str or thing[0] not in DEEDS:
        return False
    return all(looks_like_word(arm) for arm in thing[1:])


def joined(deed, arms):
    """The word of a deed and its arms; one arm alone is the word."""
    return arms[0] if len(arms) == 1 else (deed, *arms)


def first_words_by_looking(order):
    """Point 20 said out of the document: the first words."""
    return tuple(joined("down", ["abcdefgh"[k] for k in range(len(order)) if row >> k & 1]) for row in order)


def lowered_by_looking(top, rows, words):
    """Point 20 said out of the document: the "down" of a word and, for each row, the "up" of its things' words."""
    return joined("down", [top, *[("up", *[words[thing] for thing in row]) for row in rows]])


def own_choice(order):
    """The choice that gives each letter its thing, a dict."""
    return {"abcdefgh"[thing]: thing for thing in range(len(order))}


def bars(table, thing):
    """Point 22 said out of the document, for a tuple of one of the three forms."""
    up, down, below = table.up, table.down, table.below
    name, x, y, z = thing[:4]
    if name == "four":
        low, high = down[x, y], up[z, thing[4]]
        return below(low, high) and not (below(x, high) or below(y, high) or below(low, z) or below(low, thing[4]))
    if name == "up":
        return up[x, y] == up[x, z] and up[x, down[y, z]] != up[x, y]
    return down[x, y] == down[x, z] and down[x, up[y, z]] != down[x, y]


def bar_forms(many):
    """Every tuple of the three forms of a bar, with numbers below this one."""
    threes = [(name, *things) for name in DEEDS for things in itertools.product(range(many), repeat=3)]
    return threes + [("four", *things) for things in itertools.product(range(many), repeat=4)]


def is_bar_by_looking(table, thing):
    """Point 22 said out of the document, for any thing."""
    if type(thing) is not tuple or not thing or type(thing[0]) is not str:
        return False
    if (thing[0], len(thing)) not in (("up", 4), ("down", 4), ("four", 5)):
        return False
    return all(type(number) is int and number in table.every for number in thing[1:]) and bars(table, thing)


def forms_by_looking(order, thing):
    """Point 23 said out of the document, for any thing: True where it is a tuple of words that forms the order."""
    if type(thing) is not tuple or len(thing) != len(order) or not all(looks_like_word(word) for word in thing):
        return False
    known = {}
    table = Table(order)
    for one, other in itertools.combinations(table.every, 2):
        if alike_by_rules(thing[one], thing[other], known):
            return False
        for deed, bound in (("up", table.up), ("down", table.down)):
            if not alike_by_rules((deed, thing[one], thing[other]), thing[bound[one, other]], known):
                return False
    return True
