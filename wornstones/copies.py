"""Several stones of one text, copies of copies among them, and what they say together.

Where a function is told sums, they are a dict of the worn signs that a stone can have at a
moment, each with the least sum of steps from then on, on this stone and on all copies that
are made of it later, by which all of them come to be seen as they are.
"""

from wornstones.books import need_book, numbers_along
from wornstones.errors import BadColumn, BadParents, BadPlace, BadRows
from wornstones.kinds import SEEN_SIGNS, SIGNS, WORN_SIGNS, is_integer, is_row, is_seen, need_count, need_sign
from wornstones.readings import MOST_STEPS, least_along, least_text, number_within, sure_along, texts_told
from wornstones.wears import all_steps, need_wear

MOST_STONES = 4


def need_parents(thing):
    """Raise BadParents for what are no parents."""
    if not isinstance(thing, tuple) or len(thing) >= MOST_STONES:
        raise BadParents("parents are a tuple of at most three integers")
    if not all([is_integer(parent) and 0 <= parent <= at for at, parent in enumerate(thing)]):
        raise BadParents("a stone is a copy of one that is there ahead of it")


def need_column(thing):
    """Raise BadColumn for what is no column."""
    if not isinstance(thing, str) or not 1 <= len(thing) <= MOST_STONES or not all([is_seen(sign) for sign in thing]):
        raise BadColumn("a column is a str of one to four seen signs")


def need_rows(thing):
    """Raise BadRows for what are no rows of stones."""
    if not isinstance(thing, tuple) or not 1 <= len(thing) <= MOST_STONES or not all([is_row(row) for row in thing]):
        raise BadRows("rows are a tuple of one to four rows")
    if not all([len(row) == len(thing[0]) for row in thing]):
        raise BadRows("the rows are of one length")


def need_rows_for(parents, rows):
    """Raise BadRows for rows that are not one more than the parents."""
    if len(rows) != len(parents) + 1:
        raise BadRows("there is one row for each stone")


def need_three(book, wear, rows):
    """Raise BadBook, BadWear or BadRows for the first one that is none."""
    need_book(book)
    need_wear(wear)
    need_rows(rows)


def need_four(book, wear, parents, rows):
    """Raise BadBook, BadWear, BadParents or BadRows for the first one that is none."""
    need_book(book)
    need_wear(wear)
    need_parents(parents)
    need_rows(rows)


def place_signs(wear, column):
    """The ascending tuple of the signs that can have been cut at a place."""
    need_wear(wear)
    need_column(column)
    ways = all_steps(wear)
    return tuple([sign for sign in SIGNS if all([seen == "?" or seen in ways[sign] for seen in column])])


def place_steps(wear, parents, column, sign):
    """The least number of steps on all stones by which a sign comes to be seen so, or None."""
    need_wear(wear)
    need_parents(parents)
    need_column(column)
    need_sign(sign)
    if len(column) != len(parents) + 1:
        raise BadColumn("there is one sign for each stone")
    return sums_at_first(all_steps(wear), parents, column).get(sign)


def sums_at_first(ways, parents, column):
    """The sums of stone 0 as it was cut."""
    sums = [sums_at_last(ways, seen) for seen in column]
    # The copyings are gone through from the last one back, so the sums of a copy are
    # whole when it is made, and those of the copied stone are its sums behind this copying.
    for stone in range(len(parents), 0, -1):
        copied = parents[stone - 1]
        sums[copied] = sums_ahead(ways, sums[copied], sums[stone])
    return sums[0]


def sums_at_last(ways, seen):
    """The sums of a stone behind its last copying."""
    if seen == "?":
        return {worn: 0 for worn in WORN_SIGNS}
    return {worn: ways[worn][seen] for worn in WORN_SIGNS if seen in ways[worn]}


def sums_ahead(ways, kept, copied):
    """The sums of a stone ahead of a copying, by its own behind it and by those of the copy."""
    both = {worn: kept[worn] + copied[worn] for worn in kept if worn in copied}
    found = {}
    for one in WORN_SIGNS:
        totals = [many + both[other] for other, many in ways[one].items() if other in both]
        if totals:
            found[one] = min(totals)
    return found


def costs_of_copies(wear, parents, rows):
    """A list with, for each place, a dict of the signs that can have been cut there, with their place_steps."""
    ways = all_steps(wear)
    found = []
    for column in zip(*rows):
        sums = sums_at_first(ways, parents, column)
        found.append({sign: sums[sign] for sign in SIGNS if sign in sums})
    return found


def costs_unparented(wear, rows):
    """What costs_of_copies tells if all further stones are copies of stone 0: the signs hang on no parents."""
    return costs_of_copies(wear, (0,) * (len(rows) - 1), rows)


def copies_count(book, wear, rows):
    """How many texts of the book can have been cut into stone 0."""
    need_three(book, wear, rows)
    return number_of_texts(book, wear, rows)


def number_of_texts(book, wear, rows):
    """What copies_count tells."""
    return numbers_along(book, costs_unparented(wear, rows))[0][0]


def copies_readings(book, wear, rows):
    """The list, ascending, of the texts of the book that can have been cut into stone 0."""
    need_three(book, wear, rows)
    return texts_told(book, costs_unparented(wear, rows))


def copies_sure(book, wear, rows):
    """The str of the signs that all these texts have, "?" at the others, or None."""
    need_three(book, wear, rows)
    return sure_along(book, costs_unparented(wear, rows))


def copies_least(book, wear, parents, rows):
    """A tuple of the least sum of place_steps of a text, and the first such text, or None."""
    need_four(book, wear, parents, rows)
    need_rows_for(parents, rows)
    return least_text(book, costs_of_copies(wear, parents, rows))


def copies_within(book, wear, parents, rows, count):
    """How many texts have a sum of place_steps of at most so much."""
    need_four(book, wear, parents, rows)
    need_count(count, 0, MOST_STEPS)
    need_rows_for(parents, rows)
    return number_within(book, costs_of_copies(wear, parents, rows), count)


def sign_steps(book, wear, parents, rows, place):
    """The list, ascending, of (sign, steps) for the signs that texts have at a place, with their least sums."""
    need_four(book, wear, parents, rows)
    if not is_integer(place):
        raise BadPlace("a place is an integer")
    need_rows_for(parents, rows)
    if not 0 <= place < len(rows[0]):
        raise BadPlace("the rows have no such place")
    costs = costs_of_copies(wear, parents, rows)
    found = []
    for sign, many in costs[place].items():
        sums = least_along(book, costs[:place] + [{sign: many}] + costs[place + 1:])
        if 0 in sums[0]:
            found.append((sign, sums[0][0]))
    return found


def needless_copies(book, wear, rows):
    """The list, ascending, of the stones of which each, left out alone, leaves copies_count as it is."""
    need_three(book, wear, rows)
    if len(rows) == 1:
        raise BadRows("there are two stones or more")
    whole = number_of_texts(book, wear, rows)
    return [stone for stone in range(len(rows))
            if number_of_texts(book, wear, rows[:stone] + rows[stone + 1:]) == whole]


def best_parents(book, wear, rows):
    """A tuple of the least number of steps for any parents, and the list of all parents for it, or None."""
    need_three(book, wear, rows)
    found = []
    for parents in all_parents(len(rows)):
        told = least_text(book, costs_of_copies(wear, parents, rows))
        # Which texts there are hangs on no parents: if one has none, none has.
        if told is None:
            return None
        found.append((told[0], parents))
    least = min(found)[0]
    return (least, [parents for many, parents in found if many == least])


def all_parents(stones):
    """The list, ascending, of all parents of so many stones."""
    found = [()]
    for stone in range(1, stones):
        found = [parents + (copied,) for parents in found for copied in range(stone)]
    return found


def parents_apart(wear, parents, other):
    """The least (column, sign) for which two parents tell other place_steps, or None."""
    need_wear(wear)
    need_parents(parents)
    need_parents(other)
    if len(parents) != len(other):
        raise BadParents("both are parents of as many stones")
    ways = all_steps(wear)
    for column in columns_of(len(parents) + 1):
        first = sums_at_first(ways, parents, column)
        second = sums_at_first(ways, other, column)
        for sign in SIGNS:
            if first.get(sign) != second.get(sign):
                return (column, sign)
    return None


def columns_of(stones):
    """The list, ascending, of all columns of so many stones."""
    found = [""]
    for _ in range(stones):
        found = [column + seen for column in found for seen in SEEN_SIGNS]
    return found
