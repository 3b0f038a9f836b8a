"""Books beside books: which texts they have in common, and as few rooms as any."""

from wornstones.books import MOST_ROOMS, doors_by_room, need_book, numbers_along, text_along
from wornstones.errors import TooMany
from wornstones.kinds import MOST_SIGNS, SIGNS


def books_apart(book, other):
    """The first of the shortest texts that are of one of two books alone, or None."""
    need_book(book)
    need_book(other)
    # The pairs stand in the order of their texts, so the first one that parts them is told.
    for (room, second), text in pairs_behind(book, other).items():
        if (room in book[2]) != (second in other[2]):
            return text
    return None


def pairs_behind(book, other):
    """A dict of the pairs of rooms to which texts lead in two books, with the first of the shortest texts.

    None stands for no room; the pairs stand in the order of their texts, the shorter ones ahead.
    """
    first = doors_by_room(book)
    second = doors_by_room(other)
    found = {(0, 0): ""}
    wave = [(0, 0)]
    while wave:
        further = []
        for pair in list(wave):
            for sign, behind in doors_of_pair(first, second, pair).items():
                if behind not in found:
                    found[behind] = found[pair] + sign
                    further.append(behind)
        wave = further
    return found


def doors_of_pair(first, second, pair):
    """A dict of the signs that lead on from a pair of rooms, ascending, with the pairs behind."""
    room, other = pair
    one = {} if room is None else first[room]
    two = {} if other is None else second[other]
    return {sign: (one.get(sign), two.get(sign)) for sign in SIGNS if sign in one or sign in two}


def least_book(book):
    """The book with the same texts, as few rooms as any, numbered as they are come to."""
    need_book(book)
    doors = {room: held for room, held in enumerate(doors_by_room(book))}
    return least_of(0, doors, book[2])


def both_books(book, other):
    """The least book of the texts that are of both books."""
    need_book(book)
    need_book(other)
    doors = paired_doors(book, other)
    return small_of(doors, [pair for pair in doors if pair[0] in book[2] and pair[1] in other[2]])


def either_book(book, other):
    """The least book of the texts that are of at least one of two books."""
    need_book(book)
    need_book(other)
    doors = paired_doors(book, other)
    return small_of(doors, [pair for pair in doors if pair[0] in book[2] or pair[1] in other[2]])


def paired_doors(book, other):
    """A dict of the pairs of rooms to which texts lead in two books, with their doors."""
    first = doors_by_room(book)
    second = doors_by_room(other)
    return {pair: doors_of_pair(first, second, pair) for pair in pairs_behind(book, other)}


def small_of(doors, ends):
    """The least book by doors of pairs and ends, TooMany if it has too many rooms."""
    found = least_of((0, 0), doors, ends)
    if found[0] > MOST_ROOMS:
        raise TooMany("the book has more than twelve rooms")
    return found


def least_of(start, doors, ends):
    """The least book, of any number of rooms, of the texts that lead from start to one of the ends.

    doors is a dict of the rooms, whatever they are, each with a dict of its signs, ascending,
    with the rooms behind.
    """
    live = rooms_to_ends(doors, ends)
    if start not in live:
        return (1, (), ())
    kept = {room: {sign: behind for sign, behind in doors[room].items() if behind in live} for room in live}
    return numbered(start, kept, ends, like_rooms(kept, ends))


def rooms_to_ends(doors, ends):
    """A dict, with True, of the rooms from which an end can be reached."""
    ahead = {room: [] for room in doors}
    for room, held in doors.items():
        for behind in held.values():
            ahead[behind].append(room)
    found = {room: True for room in ends}
    wave = list(found)
    while wave:
        further = []
        for room in list(wave):
            for before in ahead[room]:
                if before not in found:
                    found[before] = True
                    further.append(before)
        wave = further
    return found


def like_rooms(doors, ends):
    """A dict of the rooms, with one number for all those from which the same texts lead to ends."""
    groups = {room: 1 if room in ends else 0 for room in doors}
    many = 0
    while len(set(list(groups.values()))) > many:
        many = len(set(list(groups.values())))
        numbers = {}
        finer = {}
        for room, held in doors.items():
            told = (groups[room], tuple([(sign, groups[behind]) for sign, behind in held.items()]))
            finer[room] = numbers.setdefault(told, len(numbers))
        groups = finer
    return groups


def numbered(start, doors, ends, groups):
    """The book with one room for each group, numbered from start in the order in which they are come to."""
    numbers = {groups[start]: 0}
    rooms = [start]
    found = []
    at = 0
    while at < len(rooms):
        room = rooms[at]
        for sign, behind in doors[room].items():
            group = groups[behind]
            if group not in numbers:
                numbers[group] = len(rooms)
                rooms.append(behind)
            found.append((at, sign, numbers[group]))
        at += 1
    return (len(rooms), tuple(found), tuple([k for k, kept in enumerate(rooms) if kept in ends]))


def shortest_of(book):
    """The first of the shortest texts of a book, or None."""
    need_book(book)
    # A way to an end that is in no room twice has less signs than there are rooms.
    for count in range(book[0]):
        places = [SIGNS] * count
        numbers = numbers_along(book, places)
        if numbers[0][0]:
            return text_along(book, places, numbers, 0)
    return None


def lengths_of(book):
    """The list, ascending, of the lengths from 0 to 24 that texts of the book have."""
    need_book(book)
    # From the place k on there are as many places as in a text of 24 - k signs.
    numbers = numbers_along(book, [SIGNS] * MOST_SIGNS)
    return [count for count in range(MOST_SIGNS + 1) if numbers[MOST_SIGNS - count][0]]
