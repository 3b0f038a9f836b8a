"""Doubts: how little wear leaves a text not sure, and which signs to cut deeper.

Where a function is told looks, they are a dict of the tuples (sign, other), with the least steps
in which sign can come to a worn sign to which other can come, in any steps of its own.
A state is a tuple (room, unlike): another text leads to room, and unlike tells whether it has
been unlike the text so far.
"""

from wornstones.alike import least_sum
from wornstones.books import doors_by_room, need_book, need_of, numbers_along, text_along
from wornstones.kinds import MOST_SIGNS, SIGNS, need_count, need_text
from wornstones.readings import costs_of
from wornstones.wears import all_steps, cut_deeper, need_wear


def best_cuts(book, wear):
    """A tuple of the greatest least_alike with one sign cut deeper, None counting as greatest, and these signs."""
    need_book(book)
    need_wear(wear)
    told = [least_sum(book, cut_deeper(wear, sign)) for sign in SIGNS]
    most = None if None in told else max(told)
    return (most, [sign for sign, number in zip(SIGNS, told) if number == most])


def enough_cuts(book, wear):
    """The least number of signs that, all cut deeper, leave no two texts that can come to look alike."""
    return len(first_cuts(book, wear))


def first_cuts(book, wear):
    """The first tuple of as few signs that, all cut deeper, leave no two texts that can come to look alike."""
    need_book(book)
    need_wear(wear)
    choices = [()]
    for _ in SIGNS:
        for signs in choices:
            if least_sum(book, tuple([pair for pair in wear if pair[0] not in signs])) is None:
                return signs
        choices = [signs + (sign,) for signs in choices for sign in SIGNS if signs == () or signs[-1] < sign]
    return SIGNS


def looks_of(wear):
    """A dict of (sign, other) with the least steps of sign to a worn sign to which other can come."""
    ways = all_steps(wear)
    found = {}
    for sign in SIGNS:
        for other in SIGNS:
            told = [ways[sign][worn] for worn in ways[sign] if worn in ways[other]]
            if told:
                found[(sign, other)] = min(told)
    return found


def least_behind(book, looks, text):
    """A list with, for each place and behind the last one, a dict of states with the least steps from there on.

    The steps are those of the text from this place on, so that another text can look alike;
    states from which no other text can do so are left out.
    """
    sums = [{(room, True): 0 for room in book[2]}]
    for sign in text[::-1]:
        further = sums[-1]
        told = {}
        for room, other, behind in book[1]:
            for unlike in (False, True):
                after = (behind, unlike or other != sign)
                if (sign, other) in looks and after in further:
                    total = looks[(sign, other)] + further[after]
                    told[(room, unlike)] = min(total, told.get((room, unlike), total))
        sums.append(told)
    return sums[::-1]


def need_text_of(book, wear, text):
    """Raise BadBook, BadWear, BadText or NotOf for the first one that is none."""
    need_book(book)
    need_wear(wear)
    need_text(text)
    need_of(book, text)


def doubt(book, wear, text):
    """The least row_steps of a text to a row to which another text of the book can come, too, or None."""
    need_text_of(book, wear, text)
    return least_behind(book, looks_of(wear), text)[0].get((0, False))


def doubt_row(book, wear, text):
    """A tuple of the first row that doubt tells of, and the first other text that can come to it, or None."""
    need_text_of(book, wear, text)
    sums = least_behind(book, looks_of(wear), text)
    if (0, False) not in sums[0]:
        return None
    row = least_row(book, wear, text, sums)
    places = costs_of(wear, row)
    numbers = numbers_along(book, places)
    first = text_along(book, places, numbers, 0)
    # The text itself is a reading of the row; then the first other one is next.
    return (row, text_along(book, places, numbers, 1) if first == text else first)


def least_row(book, wear, text, sums):
    """The first row to which the text comes in as few steps as sums tell, and another text comes, too."""
    ways = all_steps(wear)
    doors = doors_by_room(book)
    left = sums[0][(0, False)]
    states = [(0, False)]
    row = ""
    for sign, further in zip(text, sums[1:]):
        for worn in sorted(ways[sign]):
            after = states_behind(doors, ways, states, sign, worn)
            rest = left - ways[sign][worn]
            if rest in [further[state] for state in after if state in further]:
                break
        row += worn
        left = rest
        states = after
    return row


def states_behind(doors, ways, states, sign, worn):
    """The list of the states behind some states if the text has this sign and this worn sign is seen."""
    found = {}
    for room, unlike in states:
        for other, behind in doors[room].items():
            if worn in ways[other]:
                found[(behind, unlike or other != sign)] = True
    return list(found)


def weakest(book, wear, count):
    """A tuple of the least doubt of the texts of so many signs, and the first of them with it, or None."""
    need_book(book)
    need_wear(wear)
    need_count(count, 0, MOST_SIGNS)
    looks = looks_of(wear)
    sums = least_of_pairs(book, looks, count)
    if (0, 0, False) not in sums[0]:
        return None
    doors = doors_by_room(book)
    least = sums[0][(0, 0, False)]
    room = 0
    text = ""
    ahead = {(0, False): 0}
    for further in sums[1:]:
        held = doors[room]
        for sign, behind in held.items():
            after = sums_behind(doors, looks, ahead, sign)
            if least in [total + further[(behind, other, unlike)] for (other, unlike), total in after.items()
                         if (behind, other, unlike) in further]:
                break
        text += sign
        room = behind
        ahead = after
    return (least, text)


def least_of_pairs(book, looks, count):
    """A list with, for each place and behind the last one, a dict of (room, other, unlike) with the least steps.

    The steps are those of a text from room on, so that another text, from other on, can look alike.
    """
    sums = [{(room, other, True): 0 for room in book[2] for other in book[2]}]
    doors = [(one, two) for one in book[1] for two in book[1] if (one[1], two[1]) in looks]
    for _ in range(count):
        further = sums[-1]
        told = {}
        for (room, sign, behind), (second, other, beyond) in doors:
            for unlike in (False, True):
                after = (behind, beyond, unlike or sign != other)
                if after in further:
                    total = looks[(sign, other)] + further[after]
                    state = (room, second, unlike)
                    told[state] = min(total, told.get(state, total))
        sums.append(told)
    return sums[::-1]


def sums_behind(doors, looks, ahead, sign):
    """A dict of the states behind those of ahead, with the least sums, if the text has this sign."""
    found = {}
    for (room, unlike), total in ahead.items():
        for other, behind in doors[room].items():
            if (sign, other) in looks:
                after = (behind, unlike or other != sign)
                now = total + looks[(sign, other)]
                found[after] = min(now, found.get(after, now))
    return found
