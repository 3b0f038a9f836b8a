"""Rows and the texts of a book that fit them, told place by place.

Where a function is told costs, they are a list with, for each place of a row, a dict of
the signs that can come to the seen one, each with its steps.
"""

from wornstones.books import doors_by_room, leads_to_end, need_book, number_below, numbers_along
from wornstones.books import text_along, texts_along
from wornstones.errors import TooMany
from wornstones.kinds import SIGNS, need_count, need_number, need_row, need_text
from wornstones.wears import all_steps, need_wear

MOST_READINGS = 400
MOST_STEPS = 500


def need_three(book, wear, row):
    """Raise BadBook, BadWear or BadRow for the first one that is none."""
    need_book(book)
    need_wear(wear)
    need_row(row)


def costs_of(wear, row):
    """A list with, for each place, a dict of the signs that can come to the seen one, with their steps."""
    ways = all_steps(wear)
    found = []
    for seen in row:
        if seen == "?":
            found.append({sign: 0 for sign in SIGNS})
        else:
            found.append({sign: ways[sign][seen] for sign in SIGNS if seen in ways[sign]})
    return found


def count_readings(book, wear, row):
    """How many readings a row has."""
    need_three(book, wear, row)
    return numbers_along(book, costs_of(wear, row))[0][0]


def readings(book, wear, row):
    """The list, ascending, of the readings of a row."""
    need_three(book, wear, row)
    return texts_told(book, costs_of(wear, row))


def texts_told(book, costs):
    """The list, ascending, of all texts along the costs, TooMany if they are more than can be told."""
    numbers = numbers_along(book, costs)
    if numbers[0][0] > MOST_READINGS:
        raise TooMany("there are more than four hundred texts")
    return texts_along(book, costs, numbers)


def nth_reading(book, wear, row, number):
    """The reading with this number, ascending."""
    need_three(book, wear, row)
    costs = costs_of(wear, row)
    numbers = numbers_along(book, costs)
    need_number(number, numbers[0][0])
    return text_along(book, costs, numbers, number)


def reading_number(book, wear, row, text):
    """The number of a text among the readings, ascending, or None."""
    need_three(book, wear, row)
    need_text(text)
    costs = costs_of(wear, row)
    if len(text) != len(row) or not leads_to_end(book, text):
        return None
    if not all([sign in some for sign, some in zip(text, costs)]):
        return None
    return number_below(book, costs, numbers_along(book, costs), text)


def numbers_by_sign(book, costs):
    """A list with, for each place, a dict of the signs that readings have there, with how many have them."""
    doors = doors_by_room(book)
    numbers = numbers_along(book, costs)
    # How many ways lead from room 0 to each room.
    ahead = {0: 1}
    found = []
    for some, further in zip(costs, numbers[1:]):
        told = {}
        after = {}
        for room, many in list(ahead.items()):
            for sign, behind in doors[room].items():
                if sign in some and further[behind]:
                    told[sign] = told.get(sign, 0) + many * further[behind]
                    after[behind] = after.get(behind, 0) + many
        found.append(told)
        ahead = after
    return found


def possible_signs(book, wear, row):
    """The list, for each place, of the tuple of the signs that readings have there, ascending."""
    need_three(book, wear, row)
    return [tuple(sorted(told)) for told in numbers_by_sign(book, costs_of(wear, row))]


def sure_signs(book, wear, row):
    """The signs that all readings have, a question mark where they have several, or None."""
    need_three(book, wear, row)
    return sure_along(book, costs_of(wear, row))


def sure_along(book, costs):
    """What sure_signs tells, of all texts along the costs."""
    if numbers_along(book, costs)[0][0] == 0:
        return None
    return signs_in_common(numbers_by_sign(book, costs))


def signs_in_common(places):
    """The str of the signs that stand alone at their places, "?" at the others."""
    return "".join([sorted(some)[0] if len(some) == 1 else "?" for some in places])


def least_along(book, costs):
    """A list with, for each place and behind the last one, a dict of the rooms from which an end can be reached.

    Each room has the least sum of steps of the signs from this place on.
    """
    sums = [{room: 0 for room in book[2]}]
    for some in costs[::-1]:
        further = sums[-1]
        told = {}
        for room, sign, behind in book[1]:
            if sign in some and behind in further:
                total = some[sign] + further[behind]
                told[room] = min(total, told.get(room, total))
        sums.append(told)
    return sums[::-1]


def least_worn(book, wear, row):
    """A tuple of the least row_steps of a reading, and the first such reading, or None."""
    need_three(book, wear, row)
    return least_text(book, costs_of(wear, row))


def least_text(book, costs):
    """What least_worn tells, of all texts along the costs."""
    sums = least_along(book, costs)
    if 0 not in sums[0]:
        return None
    doors = doors_by_room(book)
    room = 0
    text = ""
    for some, told, further in zip(costs, sums, sums[1:]):
        held = doors[room]
        least = [sign for sign, behind in held.items() if sign in some and behind in further
                 and some[sign] + further[behind] == told[room]]
        text += least[0]
        room = held[least[0]]
    return (sums[0][0], text)


def numbers_by_steps(book, costs):
    """A dict of the row_steps that readings have, with how many readings have them."""
    doors = doors_by_room(book)
    ahead = {(0, 0): 1}
    for some in costs:
        after = {}
        for (room, total), many in list(ahead.items()):
            for sign, behind in doors[room].items():
                if sign in some:
                    state = (behind, total + some[sign])
                    after[state] = after.get(state, 0) + many
        ahead = after
    found = {}
    for (room, total), many in ahead.items():
        if room in book[2]:
            found[total] = found.get(total, 0) + many
    return found


def count_within(book, wear, row, count):
    """How many readings have at most so many row_steps."""
    need_three(book, wear, row)
    need_count(count, 0, MOST_STEPS)
    return number_within(book, costs_of(wear, row), count)


def number_within(book, costs, count):
    """What count_within tells, of all texts along the costs."""
    return sum([many for total, many in numbers_by_steps(book, costs).items() if total <= count])


def steps_told(book, wear, row):
    """The list, ascending, of the row_steps that readings have."""
    need_three(book, wear, row)
    return sorted(numbers_by_steps(book, costs_of(wear, row)))


def best_look(book, wear, row):
    """The list, ascending, of the places with which a look leaves the fewest readings in the worst case."""
    need_three(book, wear, row)
    return best_places(book, costs_of(wear, row))


def best_places(book, costs):
    """What best_look tells, of all texts along the costs."""
    if numbers_along(book, costs)[0][0] <= 1:
        return []
    worst = [max(list(told.values())) for told in numbers_by_sign(book, costs)]
    least = min(worst)
    return [place for place, many in enumerate(worst) if many == least]


def sure_within(book, wear, row, count):
    """The signs that all readings have whose row_steps are at most the least ones and count more, or None."""
    need_three(book, wear, row)
    need_count(count, 0, MOST_STEPS)
    costs = costs_of(wear, row)
    sums = least_along(book, costs)
    if 0 not in sums[0]:
        return None
    return signs_in_common(signs_within(book, costs, sums, sums[0][0] + count))


def signs_within(book, costs, sums, most):
    """A list with, for each place, a dict, with True, of the signs of the readings with at most so many row_steps."""
    doors = doors_by_room(book)
    # The least sum of steps that leads from room 0 to each room.
    ahead = {0: 0}
    found = []
    for some, further in zip(costs, sums[1:]):
        told = {}
        after = {}
        for room, total in list(ahead.items()):
            for sign, behind in doors[room].items():
                if sign in some and behind in further and total + some[sign] + further[behind] <= most:
                    told[sign] = True
                    now = total + some[sign]
                    after[behind] = min(now, after.get(behind, now))
        found.append(told)
        ahead = after
    return found
