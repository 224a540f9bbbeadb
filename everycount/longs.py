"""Long texts: single texts of programs, their parts and their sums, far too long to be written."""

from everycount.errors import NoLetter, TooLong
from everycount.programs import MOST_LETTERS
from everycount.rows import plain
from everycount.runs import (
    common_letters, first_place, order_of, places_of, run_number, runs_at, runs_between, runs_text, times_in_runs
)


class Long:
    """The text of a program at counts, told by runs; it does not change."""

    def __init__(self, program, counts):
        self.runs = runs_at(plain(program), counts)
        self.places = places_of(self.runs)

    @property
    def size(self):
        """How many letters the text has."""
        return self.places[-1]

    def letter(self, i):
        """The letter at a place; raises NoLetter(i) if there is none."""
        if i < 0 or i >= self.size:
            raise NoLetter(i)
        number = run_number(self.places, i)
        word, _ = self.runs[number]
        return word[(i - self.places[number]) % len(word)]

    def part(self, begin, end):
        """The letters from the place begin to below end, as a Long."""
        return long_of(runs_between(self.runs, self.places, begin, end))

    def common(self, y):
        """How many letters this text and that of another Long have in common at the beginning."""
        return common_letters(self.runs, y.runs)

    def find(self, word, begin):
        """The first place from begin on at which the word begins, or None."""
        place = first_place(runs_between(self.runs, self.places, begin, self.size), word)
        if place is None:
            return None
        return begin + place

    def count(self, word):
        """At how many places the word begins; it may overlap itself."""
        return times_in_runs(self.runs, word)

    def text(self):
        """All letters as a string; raises TooLong(size) if there are more than 10**6."""
        if self.size > MOST_LETTERS:
            raise TooLong(self.size)
        return runs_text(self.runs)

    def __add__(self, other):
        if not isinstance(other, Long):
            return NotImplemented
        return long_of(self.runs + other.runs)

    def __eq__(self, other):
        if not isinstance(other, Long):
            return False
        return self.size == other.size and common_letters(self.runs, other.runs) == self.size

    def __ne__(self, other):
        return not self == other

    def __lt__(self, other):
        if not isinstance(other, Long):
            return NotImplemented
        return order_of(self.runs, other.runs) < 0

    def __le__(self, other):
        if not isinstance(other, Long):
            return NotImplemented
        return order_of(self.runs, other.runs) <= 0

    def __gt__(self, other):
        if not isinstance(other, Long):
            return NotImplemented
        return order_of(self.runs, other.runs) > 0

    def __ge__(self, other):
        if not isinstance(other, Long):
            return NotImplemented
        return order_of(self.runs, other.runs) >= 0


def long_of(runs):
    """The Long whose text the runs tell."""
    made = Long((0, ()), ())
    made.runs = runs
    made.places = places_of(runs)
    return made
