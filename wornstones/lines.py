"""Texts in lines, with dittos in the place of the signs that stand right below like ones."""

from wornstones.errors import BadLines, BadSeen
from wornstones.kinds import MOST_SIGNS, SEEN_SIGNS, SIGNS, need_count, need_text

DITTO = '"'
MOST_WIDTH = 12


def wrapped(text, width):
    """The list of the lines of a text, each of width signs, the last one of the rest."""
    need_text(text)
    need_count(width, 1, MOST_WIDTH)
    return [text[at:at + width] for at in range(0, len(text), width)]


def text_of(lines):
    """The text that stands in lines."""
    return "".join(need_lines(lines, False))


def dittoed(lines):
    """Lines with a ditto for each sign that is that right above it."""
    plain = need_lines(lines, False)
    found = plain[:1]
    for above, line in zip(plain, plain[1:]):
        found.append("".join([DITTO if sign == other else sign for sign, other in zip(line, above)]))
    return found


def undittoed(lines):
    """The lines that dittoed lines tell."""
    return need_lines(lines, True)


def need_lines(thing, marked):
    """A new list of the lines, without dittos, that any object tells; BadLines for one that is none.

    marked tells whether they have to be dittoed lines.
    """
    if not isinstance(thing, list):
        raise BadLines(-1)
    found = []
    for index, line in enumerate(thing):
        if not can_follow(found, line):
            raise BadLines(index)
        plain = plain_line(found, line, marked)
        if plain is None:
            raise BadLines(index)
        found.append(plain)
    return found


def can_follow(lines, thing):
    """Whether any object is a str that is as long as a line behind these lines can be."""
    if not isinstance(thing, str) or thing == "":
        return False
    if not lines:
        return len(thing) <= MOST_WIDTH
    # A line that is shorter than the first one is the last one.
    width = len(lines[0])
    if len(lines[-1]) < width or len(thing) > width:
        return False
    return sum([len(line) for line in lines]) + len(thing) <= MOST_SIGNS


def plain_line(lines, line, marked):
    """The signs of a line behind these lines, None if it can not be written so.

    marked tells whether each sign that is that right above it has to be written as a ditto.
    """
    above = lines[-1] if lines and marked else ""
    found = ""
    for at, sign in enumerate(line):
        higher = above[at:at + 1]
        if sign == DITTO and higher != "":
            found += higher
        elif sign in SIGNS and sign != higher:
            found += sign
        else:
            return None
    return found


def carved(text, width):
    """How many signs of the dittoed lines of a text are no dittos."""
    need_text(text)
    need_count(width, 1, MOST_WIDTH)
    return number_carved(text, width)


def number_carved(text, width):
    """What carved tells: a sign is a ditto if that one width ahead of it is the same."""
    return len(text) - len([at for at in range(width, len(text)) if text[at] == text[at - width]])


def least_carving(text):
    """A tuple of the least number that carved tells, and the least width for it."""
    need_text(text)
    return min([(number_carved(text, width), width) for width in range(1, MOST_WIDTH + 1)])


def alike_widths(text):
    """The list, ascending, of the widths for which carved tells the least number."""
    need_text(text)
    numbers = [(number_carved(text, width), width) for width in range(1, MOST_WIDTH + 1)]
    least, _ = min(numbers)
    return [width for number, width in numbers if number == least]


def lines_known(lines):
    """The row that lines tell as they are seen, with dittos, perhaps worn or broken off."""
    if not are_seen_lines(lines):
        raise BadSeen("lines as they are seen are a list of strs of seen signs and dittos")
    row = ""
    width = len(lines[0]) if lines else 0
    for sign in "".join(lines):
        row = row + (row[len(row) - width] if sign == DITTO else sign)
    return row


def are_seen_lines(thing):
    """Whether any object is a list of lines as lines_known takes it."""
    if not isinstance(thing, list) or len(thing) > MOST_SIGNS:
        return False
    if not all([is_seen_line(line) for line in thing]):
        return False
    if not thing:
        return True
    width = len(thing[0])
    if not all([len(line) == width for line in thing[:-1]]) or len(thing[-1]) > width:
        return False
    return DITTO not in thing[0] and sum([len(line) for line in thing]) <= MOST_SIGNS


def is_seen_line(thing):
    """Whether any object is a str of seen signs and dittos, not an empty one."""
    if not isinstance(thing, str) or thing == "":
        return False
    return all([sign == DITTO or sign in SEEN_SIGNS for sign in thing])
