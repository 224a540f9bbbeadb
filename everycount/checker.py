"""The checker: whether told counts and a place part two texts, and where told moves lead."""

from everycount.errors import NoMove, NoPlace
from everycount.forms import is_natural
from everycount.moving import MovingRow, behind_rounds, make_moves
from everycount.rows import flat
from everycount.runs import common_letters, run_letter, runs_at

GREATEST_COUNT = 10 ** 18

# So many moves are made before the row is looked at again: many small numbers divide it, and rounds are often short.
STRETCH = 120


def parting(one, other, value):
    """True if any value is a pair of counts and a place at which the texts part; otherwise raises NoPlace(word)."""
    if not is_counts_and_place(value, one[0]):
        raise NoPlace("shape")
    counts, place = value
    ours = runs_at(flat(one), counts)
    theirs = runs_at(flat(other), counts)
    if place > common_letters(ours, theirs):
        raise NoPlace("ahead")
    if run_letter(ours, place) == run_letter(theirs, place):
        raise NoPlace("place")
    return True


def is_counts_and_place(value, k):
    """Whether any value is a pair of k counts up to the greatest one and a place."""
    if not isinstance(value, tuple) or len(value) != 2:
        return False
    counts, place = value
    if not isinstance(counts, tuple) or len(counts) != k or not is_natural(place):
        return False
    return all([is_natural(count) and count <= GREATEST_COUNT for count in counts])


def moved(row, moves):
    """The row behind all moves; raises NoMove(number) for the first one that cannot be made."""
    if not isinstance(moves, tuple):
        raise NoMove(-1)
    moving = MovingRow(row)
    known, begin, span = moving.state(), 0, STRETCH
    number = 0
    while number < len(moves):
        stretch = moves[number:number + STRETCH]
        made = make_moves(moving, stretch)
        number += made
        if made < len(stretch):
            raise NoMove(number)
        behind = number
        if moving.is_in(known):
            # Moves that have led from a row back to it do so again: where they are told again, none is made.
            behind = behind_rounds(moves, begin, number)
        if behind > number:
            begin, number, span = behind, behind, STRETCH
        elif number - begin >= span:
            # Ever longer ways from a row are looked at, so that a way back is found however long it is.
            begin, known, span = number, moving.state(), 2 * span
    return moving.row()
