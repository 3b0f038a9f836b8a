"""The kinds of arguments that all files share, and the errors for other ones.

Each of the is_.. functions takes any object; each of the need_.. functions
raises the error of its kind for an object that is none.
"""

from wornstones.errors import BadCount, BadNumber, BadRow, BadSign, BadText

SIGNS = ("a", "b", "c", "d", "e", "f")
WORN_SIGNS = (".", "a", "b", "c", "d", "e", "f")
SEEN_SIGNS = (".", "?", "a", "b", "c", "d", "e", "f")
MOST_SIGNS = 24


def is_integer(thing):
    """Whether it is an int that is not a bool."""
    return isinstance(thing, int) and not isinstance(thing, bool)


def is_sign(thing):
    """Whether it is one of the letters from a to f."""
    return isinstance(thing, str) and thing in SIGNS


def is_worn(thing):
    """Whether it is a sign, or what is left where nothing is."""
    return isinstance(thing, str) and thing in WORN_SIGNS


def is_seen(thing):
    """Whether it is a worn sign, or what is seen where the stone is broken off."""
    return isinstance(thing, str) and thing in SEEN_SIGNS


def is_text(thing):
    """Whether it is a text that can be handed in."""
    if not isinstance(thing, str) or len(thing) > MOST_SIGNS:
        return False
    return all([sign in SIGNS for sign in thing])


def is_row(thing):
    """Whether it is a row that can be handed in."""
    if not isinstance(thing, str) or len(thing) > MOST_SIGNS:
        return False
    return all([sign in SEEN_SIGNS for sign in thing])


def need_sign(thing):
    """Raise BadSign for what is no sign."""
    if not is_sign(thing):
        raise BadSign("a sign is a letter from a to f")


def need_worn(thing):
    """Raise BadSign for what is no worn sign."""
    if not is_worn(thing):
        raise BadSign("a worn sign is a letter from a to f, or a dot")


def need_seen(thing):
    """Raise BadSign for what is no seen sign."""
    if not is_seen(thing):
        raise BadSign("a seen sign is a letter from a to f, a dot, or a question mark")


def need_text(thing):
    """Raise BadText for what is no text."""
    if not is_text(thing):
        raise BadText("a text is a str of at most 24 letters from a to f")


def need_row(thing):
    """Raise BadRow for what is no row."""
    if not is_row(thing):
        raise BadRow("a row is a str of at most 24 seen signs")


def need_count(thing, least, most):
    """Raise BadCount for what is no integer from least to most."""
    if not is_integer(thing) or not least <= thing <= most:
        raise BadCount(f"an integer from {least} to {most} is asked")


def need_number(thing, many):
    """Raise BadNumber for what is no integer from 0 to below many."""
    if not is_integer(thing) or not 0 <= thing < many:
        raise BadNumber(f"an integer from 0 to below {many} is asked")
