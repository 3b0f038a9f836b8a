"""Books of formulas: the texts that doors lead through, from room 0 to an end.

Where a function is told places, they are a list with, for each place of a text,
the signs that may stand there (a tuple, or a dict with these as its keys).
"""

from wornstones.errors import BadBook, NotOf
from wornstones.kinds import MOST_SIGNS, SIGNS
from wornstones.kinds import is_integer, is_sign, need_count, need_number, need_text

MOST_ROOMS = 12
MOST_DOORS = 72


def is_book(thing):
    """Whether it is a book; it may be any object."""
    if not isinstance(thing, tuple) or len(thing) != 3:
        return False
    rooms, doors, ends = thing
    if not is_integer(rooms) or not 1 <= rooms <= MOST_ROOMS:
        return False
    return are_doors(doors, rooms) and are_ends(ends, rooms)


def is_room(thing, rooms):
    """Whether any object is the number of one of so many rooms."""
    return is_integer(thing) and 0 <= thing < rooms


def are_doors(thing, rooms):
    """Whether any object is what stands as doors in a book of so many rooms."""
    if not isinstance(thing, tuple) or len(thing) > MOST_DOORS:
        return False
    # Only doors are compared: other objects need not have an order.
    if not all([is_door(door, rooms) for door in thing]):
        return False
    return all([one[:2] < other[:2] for one, other in zip(thing, thing[1:])])


def is_door(thing, rooms):
    """Whether any object is a tuple (room, sign, room) of a book of so many rooms."""
    if not isinstance(thing, tuple) or len(thing) != 3:
        return False
    room, sign, behind = thing
    return is_room(room, rooms) and is_sign(sign) and is_room(behind, rooms)


def are_ends(thing, rooms):
    """Whether any object is what stands as ends in a book of so many rooms."""
    if not isinstance(thing, tuple) or not all([is_room(room, rooms) for room in thing]):
        return False
    return all([one < other for one, other in zip(thing, thing[1:])])


def need_book(thing):
    """Raise BadBook for what is no book."""
    if not is_book(thing):
        raise BadBook("a book is a tuple of its number of rooms, its doors and its ends")


def doors_by_room(book):
    """A list with, for each room, a dict of the signs of its doors, ascending, with the rooms behind."""
    found = [{} for _ in range(book[0])]
    for room, sign, behind in book[1]:
        found[room][sign] = behind
    return found


def room_after(book, text):
    """The room to which the doors with the signs of a text lead, or None."""
    need_book(book)
    need_text(text)
    return room_behind(book, text)


def room_behind(book, text):
    """What room_after tells, for a text of any length."""
    doors = doors_by_room(book)
    room = 0
    for sign in text:
        if sign not in doors[room]:
            return None
        room = doors[room][sign]
    return room


def is_of(book, text):
    """Whether a text is of the book."""
    need_book(book)
    need_text(text)
    return leads_to_end(book, text)


def leads_to_end(book, text):
    """What is_of tells, for a text of any length."""
    return room_behind(book, text) in book[2]


def need_of(book, text):
    """Raise NotOf for a text that is not of the book."""
    if not leads_to_end(book, text):
        raise NotOf("the text is not of the book")


def count_of(book, count):
    """How many texts of so many signs are of the book."""
    need_book(book)
    need_count(count, 0, MOST_SIGNS)
    return numbers_along(book, [SIGNS] * count)[0][0]


def nth_of(book, count, number):
    """The text with this number among those of so many signs, ascending."""
    need_book(book)
    need_count(count, 0, MOST_SIGNS)
    places = [SIGNS] * count
    numbers = numbers_along(book, places)
    need_number(number, numbers[0][0])
    return text_along(book, places, numbers, number)


def number_of(book, text):
    """The number of a text of the book among those of its length."""
    need_book(book)
    need_text(text)
    need_of(book, text)
    places = [SIGNS] * len(text)
    return number_below(book, places, numbers_along(book, places), text)


def next_of(book, text):
    """The least greater text of the book with as many signs, or None."""
    need_book(book)
    need_text(text)
    places = [SIGNS] * len(text)
    numbers = numbers_along(book, places)
    number = number_below(book, places, numbers, text)
    if leads_to_end(book, text):
        number += 1
    if number == numbers[0][0]:
        return None
    return text_along(book, places, numbers, number)


def numbers_along(book, places):
    """A list with, for each place and behind the last one, a list for all rooms of numbers.

    A number tells how many ways from this room at this place lead to an end.
    """
    rooms, doors, ends = book
    numbers = [[1 if room in ends else 0 for room in range(rooms)]]
    for some in places[::-1]:
        further = numbers[-1]
        told = [0] * rooms
        for room, sign, behind in doors:
            if sign in some:
                told[room] += further[behind]
        numbers.append(told)
    return numbers[::-1]


def text_along(book, places, numbers, number):
    """The text with this number, ascending, of those along the places; there has to be one."""
    doors = doors_by_room(book)
    room = 0
    left = number
    text = ""
    for some, further in zip(places, numbers[1:]):
        held = doors[room]
        for sign, behind in held.items():
            if sign in some:
                if left < further[behind]:
                    text += sign
                    room = behind
                    break
                left -= further[behind]
    return text


def number_below(book, places, numbers, text):
    """How many texts along the places are less than a text as long as they are.

    This text itself need not be one of them.
    """
    doors = doors_by_room(book)
    room = 0
    below = 0
    for sign, some, further in zip(text, places, numbers[1:]):
        held = doors[room]
        for other, behind in held.items():
            if other < sign and other in some:
                below += further[behind]
        if sign not in held or sign not in some:
            return below
        room = held[sign]
    return below


def texts_along(book, places, numbers):
    """The list, ascending, of all texts along the places."""
    doors = doors_by_room(book)
    found = [("", 0)] if numbers[0][0] else []
    for some, further in zip(places, numbers[1:]):
        # Only beginnings that lead to an end go on, so there are never more than texts.
        found = [(text + sign, behind) for text, room in found
                 for sign, behind in doors[room].items() if sign in some and further[behind]]
    return [text for text, _ in found]
