"""Wears, books, rows and texts as they are written, in words with single blanks between them."""

from wornstones.books import MOST_DOORS, MOST_ROOMS
from wornstones.errors import BadWords
from wornstones.kinds import is_row, is_sign, is_text
from wornstones.wears import MOST_PAIRS, is_pair

NONE = "-"


def show_wear(wear):
    """A wear as it is written."""
    return " ".join([f"{one}>{other}" for one, other in wear]) if wear else NONE


def show_book(book):
    """A book as it is written."""
    rooms, doors, ends = book
    through = " ; ".join([f"{room} {sign} {behind}" for room, sign, behind in doors]) if doors else NONE
    last = " ".join([str(room) for room in ends]) if ends else NONE
    return f"{rooms} doors {through} ends {last}"


def show_row(row):
    """A row, or a text, as it is written."""
    return row if row else NONE


def words_of(thing):
    """The list of the words of a str, BadWords for what is none, and for an empty first word."""
    if not isinstance(thing, str):
        raise BadWords(0)
    words = thing.split(" ")
    if words[0] == "":
        raise BadWords(0)
    return words


def need_word(words, at):
    """Raise BadWords if a word is missing."""
    if at >= len(words):
        raise BadWords(at)


def need_end(words, at):
    """Raise BadWords for a word that is one too many."""
    if at < len(words):
        raise BadWords(at)


def read_wear(text):
    """The wear that is written so."""
    words = words_of(text)
    if words[0] == NONE:
        need_end(words, 1)
        return ()
    found = []
    for at, word in enumerate(words):
        # A pair is written in three characters, each sign in one.
        pair = (word[:1], word[2:])
        if word[1:2] != ">" or not is_pair(pair) or at >= MOST_PAIRS or (found and pair <= found[-1]):
            raise BadWords(at)
        found.append(pair)
    return tuple(found)


def read_book(text):
    """The book that is written so."""
    words = words_of(text)
    rooms = read_number(words, 0, 1, MOST_ROOMS)
    need_this(words, 1, "doors")
    doors, at = read_doors(words, rooms)
    need_this(words, at, "ends")
    return (rooms, doors, read_ends(words, at + 1, rooms))


def need_this(words, at, word):
    """Raise BadWords if it is not this word that stands there."""
    need_word(words, at)
    if words[at] != word:
        raise BadWords(at)


def read_number(words, at, least, most):
    """The number from least to most that stands there, written without a leading zero."""
    need_word(words, at)
    for number in range(least, most + 1):
        if words[at] == str(number):
            return number
    raise BadWords(at)


def read_doors(words, rooms):
    """A tuple of the doors that stand there, and of the index of the word behind them."""
    need_word(words, 2)
    if words[2] == NONE:
        return ((), 3)
    found = []
    at = 2
    while len(found) < MOST_DOORS:
        # Each word is judged by those ahead alone: a room may be that of the door ahead, its sign then is greater.
        ahead, last = found[-1][:2] if found else (0, "")
        room = read_number(words, at, ahead, rooms - 1)
        sign = read_sign(words, at + 1)
        if room == ahead and sign <= last:
            raise BadWords(at + 1)
        found.append((room, sign, read_number(words, at + 2, 0, rooms - 1)))
        at += 3
        need_word(words, at)
        if words[at] != ";":
            return (tuple(found), at)
        at += 1
    # The word behind the last sign that parts doors is the first one of a door too many.
    raise BadWords(at)


def read_sign(words, at):
    """The sign that stands there."""
    need_word(words, at)
    if not is_sign(words[at]):
        raise BadWords(at)
    return words[at]


def read_ends(words, at, rooms):
    """The ends that stand from there on, up to the last word."""
    need_word(words, at)
    if words[at] == NONE:
        need_end(words, at + 1)
        return ()
    found = []
    for index in range(at, len(words)):
        found.append(read_number(words, index, found[-1] + 1 if found else 0, rooms - 1))
    return tuple(found)


def read_row(text):
    """The row that is written so."""
    words = words_of(text)
    if not is_row(signs_of(words[0])):
        raise BadWords(0)
    need_end(words, 1)
    return signs_of(words[0])


def read_text(text):
    """The text that is written so."""
    words = words_of(text)
    if not is_text(signs_of(words[0])):
        raise BadWords(0)
    need_end(words, 1)
    return signs_of(words[0])


def signs_of(word):
    """What a word writes if it writes signs."""
    return "" if word == NONE else word
