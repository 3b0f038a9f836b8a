"""Texts that wear, sign by sign and step by step, to the rows that are seen."""

from wornstones.errors import BadDeeds
from wornstones.kinds import is_integer, is_worn, need_row, need_text
from wornstones.wears import all_steps, need_wear

MOST_DEEDS = 100


def row_steps(wear, text, row):
    """The sum of the steps in which a text comes to a row, or None."""
    need_wear(wear)
    need_text(text)
    need_row(row)
    return sum_of_steps(all_steps(wear), text, row)


def sum_of_steps(ways, text, row):
    """What row_steps tells, by all_steps of the wear, for any lengths."""
    if len(text) != len(row):
        return None
    total = 0
    for one, other in zip(text, row):
        if other != "?":
            if other not in ways[one]:
                return None
            total += ways[one][other]
    return total


def worn_by(wear, text, deeds):
    """The row to which a text comes by a list of deeds."""
    need_wear(wear)
    need_text(text)
    if not isinstance(deeds, list):
        raise BadDeeds(-1)
    signs = list(text)
    for index, deed in enumerate(deeds):
        if index >= MOST_DEEDS or not can_be_done(wear, signs, deed):
            raise BadDeeds(index)
        place, worn = deed
        signs[place] = worn
    return "".join(signs)


def can_be_done(wear, signs, thing):
    """Whether any object is a deed that can be done where these signs stand."""
    if not isinstance(thing, tuple) or len(thing) != 2:
        return False
    place, worn = thing
    if not is_integer(place) or not is_worn(worn):
        return False
    return 0 <= place < len(signs) and (signs[place], worn) in wear


def shortest_wear(wear, text, row):
    """The first of the shortest lists of deeds by which a text comes to a row, or None."""
    need_wear(wear)
    need_text(text)
    need_row(row)
    ways = all_steps(wear)
    if sum_of_steps(ways, text, row) is None:
        return None
    # All shortest lists are of one length, so the first one has the deeds of the
    # least places ahead, and at each place the least sign that leads on.
    deeds = []
    for place, other in enumerate(row):
        if other != "?":
            for worn in shortest_way(wear, ways, text[place], other):
                deeds.append((place, worn))
    return deeds


def shortest_way(wear, ways, one, other):
    """The worn signs behind one, up to other, on the first of the shortest ways."""
    sign = one
    way = []
    for left in range(ways[one][other] - 1, -1, -1):
        sign = min([worn for first, worn in wear if first == sign and ways[worn].get(other) == left])
        way.append(sign)
    return way
