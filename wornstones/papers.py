"""Papers by which it can be checked how many readings a row has."""

from wornstones.books import doors_by_room, is_room, numbers_along
from wornstones.kinds import is_integer
from wornstones.readings import costs_of, need_three


def reading_paper(book, wear, row):
    """The reading paper for the count of the readings of a row, with the rooms alone that come."""
    need_three(book, wear, row)
    doors = doors_by_room(book)
    costs = costs_of(wear, row)
    numbers = numbers_along(book, costs)
    rooms = [0]
    paper = [[(0, numbers[0][0])]]
    for some, further in zip(costs, numbers[1:]):
        rooms = sorted({behind for room in rooms for sign, behind in doors[room].items() if sign in some})
        paper.append([(room, further[room]) for room in rooms])
    return paper


def reading_paper_holds(book, wear, row, number, thing):
    """Whether any object is a reading paper for a row and a number."""
    need_three(book, wear, row)
    if not isinstance(thing, list) or len(thing) != len(row) + 1:
        return False
    tables = [table_of(book, some) for some in thing]
    if None in tables or tables[0] != {0: number}:
        return False
    for some, told, further in zip(costs_of(wear, row), tables, tables[1:]):
        if not all([sum_holds(book, some, room, many, further) for room, many in told.items()]):
            return False
    return all([many == (1 if room in book[2] else 0) for room, many in tables[-1].items()])


def table_of(book, thing):
    """A dict of the rooms with their numbers that any object tells, None if it is no list of a paper."""
    if not isinstance(thing, list) or not all([is_entry(book, entry) for entry in thing]):
        return None
    found = {room: many for room, many in thing}
    # A room that stands in the list twice is told once in the dict.
    return found if len(found) == len(thing) else None


def is_entry(book, thing):
    """Whether any object is a tuple (room, many) of a paper."""
    if not isinstance(thing, tuple) or len(thing) != 2:
        return False
    room, many = thing
    return is_room(room, book[0]) and is_integer(many) and many >= 0


def sum_holds(book, some, room, many, further):
    """Whether many is the sum of the numbers of the rooms behind the doors whose signs can stand here."""
    behind = [other for sign, other in doors_by_room(book)[room].items() if sign in some]
    if not all([other in further for other in behind]):
        return False
    return many == sum([further[other] for other in behind])
