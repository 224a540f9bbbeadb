"""The checker: whether told counts and a place part two texts, and where told moves lead."""

from everycount.errors import NoMove, NoPlace
from everycount.forms import is_form, is_natural, is_open, scaled, sum_of_forms
from everycount.rows import flat
from everycount.runs import common_letters, run_letter, runs_at
from everycount.words import root_of

GREATEST_COUNT = 10 ** 18


def parting(one, other, value):
    """True if any value is a pair of counts and a place at which the texts part; otherwise raises NoPlace(word)."""
    if not is_counts_and_place(value, one[0]):
        raise NoPlace("shape")
    counts, place = value
    ours = runs_at(flat(one), counts)
    theirs = runs_at(flat(other), counts)
    if place > common_letters(ours, theirs):
        raise NoPlace("ahead")
    if run_letter(ours, place) == run_letter(theirs, place):
        raise NoPlace("place")
    return True


def is_counts_and_place(value, k):
    """Whether any value is a pair of k counts up to the greatest one and a place."""
    if not isinstance(value, tuple) or len(value) != 2:
        return False
    counts, place = value
    if not isinstance(counts, tuple) or len(counts) != k or not is_natural(place):
        return False
    return all([is_natural(count) and count <= GREATEST_COUNT for count in counts])


def moved(row, moves):
    """The row behind all moves; raises NoMove(number) for the first one that cannot be made."""
    if not isinstance(moves, tuple):
        raise NoMove(-1)
    moving = MovingRow(row)
    for number, move in enumerate(moves):
        if not make_move(moving, move):
            raise NoMove(number)
    return moving.row()


class MovingRow:
    """A row that moves change: its texts, and its loops as triples of a root, how often it stands in the word
    of the loop, and a form. Moves may make a word far too long to be written at each of them."""

    def __init__(self, row):
        k, texts, loops = row
        self.k = k
        self.texts = list(texts)
        self.loops = [rooted_loop(word, form) for word, form in loops]

    def row(self):
        """The row by now."""
        loops = [(root * times, form) for root, times, form in self.loops]
        return (self.k, tuple(self.texts), tuple(loops))


def rooted_loop(word, form):
    """A loop of a row as a moving row has it."""
    root = root_of(word)
    return (root, len(word) // len(root), form)


def make_left(moving, j):
    """Lets the last letter of the text ahead go through the loop; False if it cannot."""
    root, times, form = moving.loops[j]
    ahead = moving.texts[j]
    if ahead == "" or ahead[-1] != root[-1]:
        return False
    moving.texts[j] = ahead[:-1]
    moving.loops[j] = (root[-1] + root[:-1], times, form)
    moving.texts[j + 1] = root[-1] + moving.texts[j + 1]
    return True


def make_right(moving, j):
    """Lets the first letter of the text behind go through the loop; False if it cannot."""
    root, times, form = moving.loops[j]
    behind = moving.texts[j + 1]
    if behind == "" or behind[0] != root[0]:
        return False
    moving.texts[j + 1] = behind[1:]
    moving.loops[j] = (root[1:] + root[0], times, form)
    moving.texts[j] = moving.texts[j] + root[0]
    return True


def make_out(moving, j):
    """Writes the word once behind the loop; False if the constant is 0."""
    root, times, form = moving.loops[j]
    if form[0] == 0:
        return False
    moving.loops[j] = (root, times, (form[0] - 1,) + form[1:])
    moving.texts[j + 1] = root * times + moving.texts[j + 1]
    return True


def make_in(moving, j):
    """Takes the word at the beginning of the text behind into the loop; False if it does not stand there."""
    root, times, form = moving.loops[j]
    behind = moving.texts[j + 1]
    size = len(root) * times
    # The word is written only where it is not longer than a text that stands written.
    if size > len(behind) or not behind.startswith(root * times):
        return False
    moving.texts[j + 1] = behind[size:]
    moving.loops[j] = (root, times, (form[0] + 1,) + form[1:])
    return True


def make_join(moving, j):
    """Makes the loop and the next one one loop; False if they have not the same word or a text between."""
    if j + 1 == len(moving.loops) or moving.texts[j + 1] != "":
        return False
    root, times, form = moving.loops[j]
    other_root, other_times, other_form = moving.loops[j + 1]
    if root != other_root or times != other_times:
        return False
    moving.loops[j:j + 2] = [(root, times, sum_of_forms(form, other_form))]
    del moving.texts[j + 1]
    return True


def make_root(moving, j, n):
    """Makes the word n times shorter and the form n times as great; False if it cannot."""
    root, times, form = moving.loops[j]
    # The root is no shorter word some times in a row, so the word is one n times just if n divides times.
    if not is_natural(n) or n < 2 or times % n != 0:
        return False
    moving.loops[j] = (root, times // n, scaled(form, n))
    return True


def make_whole(moving, j, n):
    """Makes the form n times less and the word n times as long; False if it cannot."""
    root, times, form = moving.loops[j]
    if not is_natural(n) or n < 2 or any([number % n != 0 for number in form]):
        return False
    moving.loops[j] = (root, times * n, tuple([number // n for number in form]))
    return True


def make_part(moving, j, form):
    """Makes two loops of the loop, the first one with the form; False if it cannot."""
    root, times, whole = moving.loops[j]
    if not is_form(form, moving.k) or not is_open(form):
        return False
    left = tuple([number - piece for number, piece in zip(whole, form)])
    if any([number < 0 for number in left]) or not is_open(left):
        return False
    moving.loops[j:j + 1] = [(root, times, form), (root, times, left)]
    moving.texts.insert(j + 1, "")
    return True


SHORT_MOVES = {"left": make_left, "right": make_right, "out": make_out, "in": make_in, "join": make_join}
LONG_MOVES = {"root": make_root, "whole": make_whole, "part": make_part}


def make_move(moving, move):
    """Makes the move of a moving row; False, and nothing is changed, if any value is not such a move."""
    if not isinstance(move, tuple) or len(move) < 2 or not isinstance(move[0], str):
        return False
    if not is_natural(move[1]) or move[1] >= len(moving.loops):
        return False
    if len(move) == 2 and move[0] in SHORT_MOVES:
        action = SHORT_MOVES[move[0]]
        return action(moving, move[1])
    if len(move) == 3 and move[0] in LONG_MOVES:
        long_action = LONG_MOVES[move[0]]
        return long_action(moving, move[1], move[2])
    return False
