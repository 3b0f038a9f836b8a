"""Texts of a book that can come to look alike, and papers by which it can be checked that none do.

A state is a tuple (room, other, unlike): two texts of one length lead to room and to other,
and unlike tells whether they have been unlike so far. Where a function is told commons, they are
a dict of the tuples of two signs that can come to one worn sign, with what common tells for them.
"""

from heapq import heappop, heappush

from wornstones.books import doors_by_room, is_room, leads_to_end, need_book
from wornstones.errors import TooMany
from wornstones.kinds import MOST_SIGNS, SIGNS, WORN_SIGNS, is_integer, need_count
from wornstones.wearing import sum_of_steps
from wornstones.wears import all_steps, least_common, need_wear

MOST_ALIKE = 400
MOST_SUM = 100
MOST_PAIRS = 600
START = (0, 0, False)


def commons_of(wear):
    """A dict of the tuples of two signs that can come to one worn sign, with what common tells."""
    ways = all_steps(wear)
    found = {}
    for one in SIGNS:
        for other in SIGNS:
            told = least_common(ways[one], ways[other])
            if told is not None:
                found[(one, other)] = told
    return found


def ways_on(doors, commons, state):
    """The list of (state, steps, signs) behind a state, signs being two that can come to one worn sign."""
    room, second, unlike = state
    found = []
    for one, behind in doors[room].items():
        for other, beyond in doors[second].items():
            if (one, other) in commons:
                after = (behind, beyond, unlike or one != other)
                found.append((after, commons[(one, other)][0], (one, other)))
    return found


def least_sums(book, commons):
    """A dict of the states that come from the first one, with (steps, ahead, signs).

    steps is the least sum to this state, ahead the state ahead of it on a way with this sum and
    signs the two signs that lead on from there, both None for the first one.
    """
    doors = doors_by_room(book)
    found = {START: (0, None, None)}
    done = {}
    queue = [(0, START)]
    while queue:
        total, state = heappop(queue)
        if state not in done:
            done[state] = True
            for after, many, signs in ways_on(doors, commons, state):
                if after not in found or total + many < found[after][0]:
                    found[after] = (total + many, state, signs)
                    heappush(queue, (total + many, after))
    return found


def looks_alike(book, state):
    """Whether two unlike texts of the book lead to a state."""
    room, other, unlike = state
    return unlike and room in book[2] and other in book[2]


def least_end(book, sums):
    """A tuple (steps, state) for the least sum of two unlike texts of the book, or None."""
    return min([(told[0], state) for state, told in sums.items() if looks_alike(book, state)], default=None)


def least_sum(book, wear):
    """What least_alike tells."""
    end = least_end(book, least_sums(book, commons_of(wear)))
    return None if end is None else end[0]


def least_alike(book, wear):
    """The least sum of row_steps by which two unlike texts of a book come to look alike, or None."""
    need_book(book)
    need_wear(wear)
    return least_sum(book, wear)


def alike_texts(book, wear):
    """A tuple of two unlike texts and a row to which both come in as few steps as least_alike tells, or None."""
    need_book(book)
    need_wear(wear)
    commons = commons_of(wear)
    sums = least_sums(book, commons)
    end = least_end(book, sums)
    if end is None:
        return None
    first = ""
    second = ""
    row = ""
    _, state, signs = sums[end[1]]
    # No state stands twice on this way, so no text has as many signs as there are states.
    while state is not None:
        first = signs[0] + first
        second = signs[1] + second
        row = commons[signs][1] + row
        _, state, signs = sums[state]
    return (min(first, second), max(first, second), row)


def alike_holds(book, wear, most, thing):
    """Whether any object is a tuple of two unlike texts of the book and a row to which both come by at most so much."""
    need_book(book)
    need_wear(wear)
    if not isinstance(thing, tuple) or len(thing) != 3:
        return False
    one, other, row = thing
    if not is_long(one, SIGNS) or not is_long(other, SIGNS) or not is_long(row, WORN_SIGNS):
        return False
    if one == other or not leads_to_end(book, one) or not leads_to_end(book, other):
        return False
    ways = all_steps(wear)
    first = sum_of_steps(ways, one, row)
    second = sum_of_steps(ways, other, row)
    return first is not None and second is not None and first + second <= most


def is_long(thing, signs):
    """Whether any object is a str of these signs that alike_holds takes."""
    if not isinstance(thing, str) or len(thing) > MOST_ALIKE:
        return False
    return all([sign in signs for sign in thing])


def safe_paper(book, wear):
    """The ascending list of (room, other, unlike, steps) for the states that come from the first one."""
    need_book(book)
    need_wear(wear)
    sums = least_sums(book, commons_of(wear))
    return sorted([(room, other, unlike, told[0]) for (room, other, unlike), told in sums.items()])


def safe_paper_holds(book, wear, most, thing):
    """Whether any object is a safe paper for an integer."""
    need_book(book)
    need_wear(wear)
    if not isinstance(thing, list) or not all([is_safe_entry(book, entry) for entry in thing]):
        return False
    numbers = {(room, other, unlike): number for room, other, unlike, number in thing}
    if len(numbers) < len(thing) or START not in numbers or numbers[START] > 0:
        return False
    doors = doors_by_room(book)
    commons = commons_of(wear)
    for state, number in numbers.items():
        if looks_alike(book, state) and number <= most:
            return False
        for after, many, _ in ways_on(doors, commons, state):
            if after not in numbers or numbers[after] > number + many:
                return False
    return True


def is_safe_entry(book, thing):
    """Whether any object is a tuple (room, other, unlike, number) of a safe paper."""
    if not isinstance(thing, tuple) or len(thing) != 4:
        return False
    room, other, unlike, number = thing
    if not is_room(room, book[0]) or not is_room(other, book[0]):
        return False
    return isinstance(unlike, bool) and is_integer(number)


def pairs_alike(book, wear, count, most):
    """How many pairs of unlike texts of so many signs can come to look alike with a sum of at most so much."""
    need_book(book)
    need_wear(wear)
    need_count(count, 0, MOST_SIGNS)
    need_count(most, 0, MOST_SUM)
    numbers = [0] * (most + 1)
    for (room, other), told in numbers_by_sums(book, commons_of(wear), count, most).items():
        if room in book[2] and other in book[2]:
            numbers = [one + more for one, more in zip(numbers, told)]
    # Unlike texts have a sum above 0, and each pair of them is told twice, either way round.
    return sum(numbers[1:]) // 2


def numbers_by_sums(book, commons, count, most):
    """A dict of the pairs of rooms to which two texts of so many signs lead, with a list for the sums up to most.

    It tells how many pairs of texts that can come to look alike lead to them with each sum.
    """
    doors = doors_by_room(book)
    ahead = {(0, 0): [1] + [0] * most}
    for _ in range(count):
        after = {}
        for (room, other), told in list(ahead.items()):
            for state, many, _ in ways_on(doors, commons, (room, other, False)):
                numbers = after.setdefault(state[:2], [0] * (most + 1))
                numbers[many:] = [one + more for one, more in zip(numbers[many:], told)]
        ahead = after
    return ahead


def row_apart(book, other, wear):
    """The first of the shortest rows without "?" that have a reading by one of two books alone, or None."""
    need_book(book)
    need_book(other)
    need_wear(wear)
    # The pairs stand in the order of their rows, so the first one that parts the books is told.
    for (rooms, others), row in pairs_of_sets(leads_by_worn(book, wear), leads_by_worn(other, wear)).items():
        if any([room in book[2] for room in rooms]) != any([room in other[2] for room in others]):
            return row
    return None


def leads_by_worn(book, wear):
    """A dict of (room, worn) with the list of the rooms to which signs lead that can come to worn."""
    ways = all_steps(wear)
    found = {}
    for room, sign, behind in book[1]:
        for worn in ways[sign]:
            found.setdefault((room, worn), []).append(behind)
    return found


def rooms_behind(leads, rooms, worn):
    """The ascending tuple of the rooms to which signs that can come to worn lead from some rooms."""
    return tuple(sorted({behind for room in rooms for behind in leads.get((room, worn), [])}))


def pairs_of_sets(first, second):
    """A dict of the pairs of sets of rooms to which rows lead in two books, with the first of the shortest rows.

    The sets are ascending tuples; the pairs stand in the order of their rows, the shorter ones ahead.
    """
    found = {((0,), (0,)): ""}
    wave = [((0,), (0,))]
    while wave:
        further = []
        for pair in list(wave):
            for worn in WORN_SIGNS:
                after = (rooms_behind(first, pair[0], worn), rooms_behind(second, pair[1], worn))
                if after not in found:
                    found[after] = found[pair] + worn
                    further.append(after)
        if len(found) > MOST_PAIRS:
            raise TooMany("rows lead to more than six hundred pairs of sets of rooms")
        wave = further
    return found
