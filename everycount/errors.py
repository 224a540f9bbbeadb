"""The errors of the package: each one keeps the value that it is created with."""


class CountError(ValueError):
    """Every error of the package."""


class TooLong(CountError):
    """A text has too many letters to be written; length tells how many."""

    def __init__(self, length):
        self.length = length


class Unused(CountError):
    """The length of a text does not grow with the count that has this number."""

    def __init__(self, number):
        self.number = number


class NoPlace(CountError):
    """A value does not show where two texts part; word tells why."""

    def __init__(self, word):
        self.word = word


class NoMove(CountError):
    """The move with this number cannot be made."""

    def __init__(self, number):
        self.number = number


class NoLetter(CountError):
    """A text has no letter at this place."""

    def __init__(self, place):
        self.place = place


class BadText(CountError):
    """No text of a program can go on at this place."""

    def __init__(self, place):
        self.place = place
