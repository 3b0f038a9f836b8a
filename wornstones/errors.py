"""The errors that the package raises, each directly under StoneError."""


class StoneError(ValueError):
    """Any error of the package."""


class BadSign(StoneError):
    """A single sign is none of the kind that is asked."""


class BadText(StoneError):
    """What is handed in is no text."""


class BadRow(StoneError):
    """What is handed in is no row."""


class BadWear(StoneError):
    """What is handed in is no wear."""


class BadDeeds(StoneError):
    """What is handed in is no list of deeds that can be done one by one."""

    def __init__(self, place):
        super().__init__(f"no deeds that can be done, by the entry {place}")
        self.place = place


class BadBook(StoneError):
    """What is handed in is no book."""


class BadCount(StoneError):
    """An integer is not from the range that is asked."""


class BadNumber(StoneError):
    """There is nothing that has this number."""


class NotOf(StoneError):
    """A text is not of the book, or not as it is asked."""


class BadLines(StoneError):
    """What is handed in are no lines."""

    def __init__(self, place):
        super().__init__(f"no lines, by the entry {place}")
        self.place = place


class BadSeen(StoneError):
    """What is handed in are no lines as they are seen."""


class BadStone(StoneError):
    """What is handed in is no stone."""


class BadSize(StoneError):
    """What is handed in is no size of a page."""


class BadPieces(StoneError):
    """What is handed in are no pieces."""


class BadParents(StoneError):
    """What is handed in are no parents."""


class BadRows(StoneError):
    """What is handed in are no rows of copies."""


class BadColumn(StoneError):
    """What is handed in is no column of copies."""


class BadLot(StoneError):
    """What is handed in is no lot."""


class BadPlace(StoneError):
    """There is no such place."""


class BadParent(StoneError):
    """There is no such stone to be copied."""


class BadLength(StoneError):
    """A row is not as long as the first one."""


class NothingToUndo(StoneError):
    """There is no deed that can be taken back."""


class Full(StoneError):
    """As many deeds as can be are in force."""


class TooMany(StoneError):
    """There are more things than can be told."""


class BadWords(StoneError):
    """What is handed in is not written as it has to be."""

    def __init__(self, place):
        super().__init__(f"not as it has to be, by the word {place}")
        self.place = place


class BadCommand(StoneError):
    """What is said to a desk is none of its forms."""
