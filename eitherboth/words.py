"""Words: letters put together by the deeds "up" and "down"."""

from eitherboth.kinds import UP, deed_turned, has_deed_and_arms, is_letter


def is_word(thing):
    """True where the thing, whatever it is, is a word."""
    waiting = [thing]
    while waiting:
        part = waiting.pop()
        if is_letter(part):
            continue
        if not has_deed_and_arms(part):
            return False
        waiting.extend(part[1:])
    return True


def standing_letters(word):
    """The letters of a word, a list in no promised order, each as often as it stands."""
    letters = []
    waiting = [word]
    while waiting:
        part = waiting.pop()
        if is_letter(part):
            letters.append(part)
        else:
            waiting.extend(part[1:])
    return letters


def places_of(word):
    """How many letters stand in a word, each as often as it does."""
    return len(standing_letters(word))


def letters_of(word):
    """The letters of a word, a rising tuple, each once."""
    return tuple(sorted(set(standing_letters(word))))


def joined_texts(deed, texts):
    """The text of a word of this deed whose arms have these texts."""
    inner = "|".join(texts) if deed == UP else "&".join(texts)
    return "(" + inner + ")"


def text_of(word):
    """The text of a word."""
    if is_letter(word):
        return word
    return joined_texts(word[0], [text_of(arm) for arm in word[1:]])


def gather_parts(word, parts):
    """Puts each part of a word into the dict parts by its text, and tells the word's own text."""
    # Unlike words have unlike texts, and a text stays a flat key however deep its word is.
    if is_letter(word):
        text = word
    else:
        text = joined_texts(word[0], [gather_parts(arm, parts) for arm in word[1:]])
    parts[text] = word
    return text


def parts_of(word):
    """The word itself, its arms, their arms and so on, each once, in the order of their texts."""
    parts = {}
    gather_parts(word, parts)
    return tuple([parts[text] for text in sorted(parts)])


def put_rows_in(word, rows):
    """The word with the word of its row for each letter that has one in the dict rows."""
    if is_letter(word):
        return rows.get(word, word)
    arms = [put_rows_in(arm, rows) for arm in word[1:]]
    return (word[0], *arms)


def put_in(word, choice):
    """The word with each letter that has a row in the choice become the row's word, all at once."""
    return put_rows_in(word, {letter: row for letter, row in choice})


def word_turned(word):
    """The word with "down" for each "up" and "up" for each "down"."""
    if is_letter(word):
        return word
    arms = [word_turned(arm) for arm in word[1:]]
    return (deed_turned(word[0]), *arms)
