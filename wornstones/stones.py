"""Stones of which the right edge is broken off: how wide they were, and what stood on them."""

from wornstones.books import need_book, numbers_along, text_along
from wornstones.errors import BadStone
from wornstones.kinds import is_integer, is_row
from wornstones.readings import costs_of, least_text, numbers_by_sign, signs_in_common
from wornstones.wears import need_wear

MOST_LINES = 5
MOST_WIDTH = 8


def is_stone(thing):
    """Whether any object is a stone."""
    if not isinstance(thing, tuple) or len(thing) != 3:
        return False
    lines, least, most = thing
    if not is_integer(least) or not is_integer(most) or not 1 <= least <= most <= MOST_WIDTH:
        return False
    if not isinstance(lines, tuple) or not 1 <= len(lines) <= MOST_LINES:
        return False
    return all([is_row(line) and 1 <= len(line) <= least for line in lines])


def need_stone(thing):
    """Raise BadStone for what is no stone."""
    if not is_stone(thing):
        raise BadStone("a stone is a tuple of one to five lines, its least and its greatest width")


def need_three(book, wear, stone):
    """Raise BadBook, BadWear or BadStone for the first one that is none."""
    need_book(book)
    need_wear(wear)
    need_stone(stone)


def stone_rows(stone):
    """The list, ascending, of all tuples (width, last, row) of a stone."""
    need_stone(stone)
    return rows_of(stone)


def rows_of(stone):
    """What stone_rows tells."""
    lines, least, most = stone
    found = []
    for width in range(least, most + 1):
        ahead = "".join([filled(line, width) for line in lines[:-1]])
        for last in range(len(lines[-1]), width + 1):
            found.append((width, last, ahead + filled(lines[-1], last)))
    return found


def filled(line, width):
    """A line with what is broken off, up to this width."""
    return line + "?" * (width - len(line))


def stone_counts(book, wear, stone):
    """The list, ascending, of (width, last, number) for those that have so many readings."""
    need_three(book, wear, stone)
    counts = [(width, last, numbers_along(book, costs_of(wear, row))[0][0]) for width, last, row in rows_of(stone)]
    return [told for told in counts if told[2]]


def stone_widths(book, wear, stone):
    """The list, ascending, of the widths with which there is a reading."""
    need_three(book, wear, stone)
    return sorted({width for width, _ in first_texts(book, wear, stone)})


def first_stone(book, wear, stone):
    """A tuple of the least width with a reading, and the first text with it, or None."""
    need_three(book, wear, stone)
    return min(first_texts(book, wear, stone), default=None)


def first_texts(book, wear, stone):
    """The list of (width, text) for all rows with a reading, text being the first one."""
    found = []
    for width, _, row in rows_of(stone):
        costs = costs_of(wear, row)
        numbers = numbers_along(book, costs)
        if numbers[0][0]:
            found.append((width, text_along(book, costs, numbers, 0)))
    return found


def sure_lines(book, wear, stone):
    """The tuple of the lines as they are seen, with the signs that are sure, "?" at the others, or None."""
    need_three(book, wear, stone)
    told = [(width, numbers_by_sign(book, costs_of(wear, row))) for width, _, row in rows_of(stone)]
    # Each stone has a first sign, for which each reading has one.
    if not signs_at(told, 0, 0):
        return None
    return tuple([signs_in_common([signs_at(told, at, column) for column in range(len(line))])
                  for at, line in enumerate(stone[0])])


def signs_at(told, line, column):
    """A dict, with True, of the signs that readings have there.

    told is a list of (width, places), for each row the width and what numbers_by_sign tells.
    """
    return {sign: True for width, places in told for sign in places[line * width + column]}


def least_stone(book, wear, stone):
    """A tuple of the least row_steps of a reading, the least width for it, and the first such text, or None."""
    need_three(book, wear, stone)
    found = []
    for width, _, row in rows_of(stone):
        least = least_text(book, costs_of(wear, row))
        if least is not None:
            found.append((least[0], width, least[1]))
    return min(found, default=None)
