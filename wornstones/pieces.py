"""Pieces of a page: how they can have lain in it, and what stood there."""

from wornstones.books import need_book, numbers_along
from wornstones.errors import BadPieces, BadSize, TooMany
from wornstones.kinds import is_integer, is_row
from wornstones.readings import costs_of, numbers_by_sign, signs_in_common
from wornstones.wears import need_wear

MOST_LINES = 4
MOST_WIDTH = 6
MOST_PIECES = 3
MOST_ROWS = 3
MOST_LAYINGS = 1000


def need_size(thing):
    """Raise BadSize for what is no size of a page."""
    if not is_size(thing):
        raise BadSize("a size is a tuple of one to four lines and a width from one to six")


def is_size(thing):
    """Whether any object is a size of a page."""
    if not isinstance(thing, tuple) or len(thing) != 2:
        return False
    lines, width = thing
    if not is_integer(lines) or not is_integer(width):
        return False
    return 1 <= lines <= MOST_LINES and 1 <= width <= MOST_WIDTH


def need_pieces(thing):
    """Raise BadPieces for what are no pieces."""
    if not isinstance(thing, tuple) or not 1 <= len(thing) <= MOST_PIECES or not all([is_piece(one) for one in thing]):
        raise BadPieces("pieces are a tuple of one to three tuples of rows of one length")


def is_piece(thing):
    """Whether any object is a piece."""
    if not isinstance(thing, tuple) or not 1 <= len(thing) <= MOST_ROWS:
        return False
    if not all([is_row(row) for row in thing]) or not 1 <= len(thing[0]) <= MOST_WIDTH:
        return False
    return all([len(row) == len(thing[0]) for row in thing])


def need_four(book, wear, size, pieces):
    """Raise BadBook, BadWear, BadSize or BadPieces for the first one that is none."""
    need_book(book)
    need_wear(wear)
    need_size(size)
    need_pieces(pieces)


def all_layings(size, pieces):
    """The list, ascending, of all layings."""
    need_size(size)
    need_pieces(pieces)
    return told_layings(size, pieces)


def told_layings(size, pieces):
    """What all_layings tells, TooMany if they are more than can be told."""
    found = layings_of(size, pieces)
    if len(found) > MOST_LAYINGS:
        raise TooMany("there are more than one thousand layings")
    return found


def layings_of(size, pieces):
    """The list, ascending, of all layings, however many they are."""
    found = [((), 0)]
    for piece in pieces:
        spots = [(spot, places_under(size, piece, spot)) for spot in spots_of(size, piece)]
        found = [(laying + (spot,), taken | under) for laying, taken in found
                 for spot, under in spots if not taken & under]
    return [laying for laying, _ in found]


def spots_of(size, piece):
    """The list, ascending, of the (line, column) at which a piece lies in the page whole."""
    lines, width = size
    return [(line, column) for line in range(lines - len(piece) + 1) for column in range(width - len(piece[0]) + 1)]


def places_under(size, piece, spot):
    """An integer with a bit for each place of the page on which a piece lies."""
    line, column = spot
    bits = 0
    for at, row in enumerate(piece):
        for behind in range(len(row)):
            bits |= 1 << ((line + at) * size[1] + column + behind)
    return bits


def page_row(size, pieces, laying):
    """The row of the page with the seen signs of the pieces, "?" elsewhere."""
    lines, width = size
    signs = ["?"] * (lines * width)
    for piece, (line, column) in zip(pieces, laying):
        for at, row in enumerate(piece):
            begin = (line + at) * width + column
            signs[begin:begin + len(row)] = list(row)
    return "".join(signs)


def layings(book, wear, size, pieces):
    """The list, ascending, of the layings with a reading."""
    need_four(book, wear, size, pieces)
    return [laying for laying, _ in counts_of(book, wear, size, pieces)]


def laying_counts(book, wear, size, pieces):
    """The list, ascending, of (laying, number) for those that have so many readings."""
    need_four(book, wear, size, pieces)
    return counts_of(book, wear, size, pieces)


def counts_of(book, wear, size, pieces):
    """What laying_counts tells."""
    counts = []
    for laying in told_layings(size, pieces):
        costs = costs_of(wear, page_row(size, pieces, laying))
        counts.append((laying, numbers_along(book, costs)[0][0]))
    return [told for told in counts if told[1]]


def sure_laying(book, wear, size, pieces):
    """A tuple with, for each piece, its (line, column) in all layings with a reading, or None."""
    need_four(book, wear, size, pieces)
    told = [laying for laying, _ in counts_of(book, wear, size, pieces)]
    if not told:
        return None
    first = told[0]
    return tuple([spot if all([laying[at] == spot for laying in told]) else None for at, spot in enumerate(first)])


def sure_page(book, wear, size, pieces):
    """The tuple of the lines of the signs that are sure whatever the laying and the reading, or None."""
    need_four(book, wear, size, pieces)
    lines, width = size
    signs = sure_of_layings(book, wear, size, pieces, told_layings(size, pieces))
    if signs is None:
        return None
    return tuple([signs[line * width:(line + 1) * width] for line in range(lines)])


def sure_of_layings(book, wear, size, pieces, some):
    """The str of the signs that are sure whatever of some layings it is, "?" at the others, or None."""
    found = [{} for _ in range(size[0] * size[1])]
    for row in {page_row(size, pieces, laying): True for laying in some}:
        for place, signs in enumerate(numbers_by_sign(book, costs_of(wear, row))):
            found[place].update(signs)
    # Each page has a first place, at which each reading has a sign.
    return signs_in_common(found) if found[0] else None


def telling_pieces(book, wear, size, pieces):
    """The list, ascending, of the indexes of the pieces without which sure_page has fewer signs."""
    need_four(book, wear, size, pieces)
    signs = sure_of_layings(book, wear, size, pieces, told_layings(size, pieces))
    if signs is None:
        return []
    found = []
    for at in range(len(pieces)):
        # Without a piece there is one laying or more: that of the others in each laying of all.
        rest = pieces[:at] + pieces[at + 1:]
        fewer = sure_of_layings(book, wear, size, rest, layings_of(size, rest))
        if number_sure(fewer) < number_sure(signs):
            found.append(at)
    return found


def number_sure(signs):
    """How many signs are sure."""
    return len([sign for sign in signs if sign != "?"])
