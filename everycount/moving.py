"""Moving: rows that moves change, one move after another."""

from everycount.forms import is_form, is_natural, is_open, left_of, scaled, sum_of_forms
from everycount.words import root_of


class MovingRow:
    """A row that moves change. Its loops are tuples: a root, how often it stands in the word of the loop, and how often
    the root goes, told by a constant and by factors. So "root" and "whole" change just one number, and a word that they
    make, which may be far too long to be written at each move, is not written."""

    def __init__(self, row):
        k, texts, loops = row
        self.k = k
        self.texts = list(texts)
        self.loops = [moving_loop(word, form) for word, form in loops]

    def row(self):
        """The row by now."""
        loops = [(loop[0] * loop[1], form_of(loop)) for loop in self.loops]
        return (self.k, tuple(self.texts), tuple(loops))

    def state(self):
        """Copies of what moves change, by which the row is known again."""
        return (list(self.texts), list(self.loops))

    def is_in(self, state):
        """Whether the row is by now what it was when it had this state."""
        texts, loops = state
        return self.texts == texts and self.loops == loops


def moving_loop(word, form):
    """A loop of a row as a moving row has it."""
    root = root_of(word)
    times = len(word) // len(root)
    return (root, times, form[0] * times, scaled(form[1:], times))


def form_of(loop):
    """The form of a moving row's loop."""
    _, times, constant, factors = loop
    return (constant // times,) + tuple([factor // times for factor in factors])


def make_moves(moving, moves):
    """Makes the moves, any values, of a moving row up to the first one that cannot be made; how many are made."""
    texts = moving.texts
    loops = moving.loops
    for number, move in enumerate(moves):
        if not isinstance(move, tuple) or len(move) < 2:
            return number
        kind = move[0]
        j = move[1]
        # There may be thousands of moves, so that it tells in time that is_natural is not called here.
        if not isinstance(j, int) or j is True or j is False or not 0 <= j < len(loops):
            return number
        if len(move) > 2:
            made = make_long_move(texts, loops, move)
        elif kind == "out":
            made = make_out(texts, loops, j)
        elif kind == "in":
            made = make_in(texts, loops, j)
        elif kind == "left":
            made = make_left(texts, loops, j)
        elif kind == "right":
            made = make_right(texts, loops, j)
        else:
            made = kind == "join" and make_join(texts, loops, j)
        if not made:
            return number
    return len(moves)


def make_left(texts, loops, j):
    """Lets the last letter of the text ahead go through the loop; False if it cannot."""
    root, times, constant, factors = loops[j]
    ahead = texts[j]
    letter = root[-1]
    if ahead == "" or ahead[-1] != letter:
        return False
    texts[j] = ahead[:-1]
    loops[j] = (letter + root[:-1], times, constant, factors)
    texts[j + 1] = letter + texts[j + 1]
    return True


def make_right(texts, loops, j):
    """Lets the first letter of the text behind go through the loop; False if it cannot."""
    root, times, constant, factors = loops[j]
    behind = texts[j + 1]
    letter = root[0]
    if behind == "" or behind[0] != letter:
        return False
    texts[j + 1] = behind[1:]
    loops[j] = (root[1:] + letter, times, constant, factors)
    texts[j] = texts[j] + letter
    return True


def make_out(texts, loops, j):
    """Writes the word once behind the loop; False if the constant is 0."""
    root, times, constant, factors = loops[j]
    if constant == 0:
        return False
    loops[j] = (root, times, constant - times, factors)
    texts[j + 1] = root * times + texts[j + 1]
    return True


def make_in(texts, loops, j):
    """Takes the word at the beginning of the text behind into the loop; False if it does not stand there."""
    root, times, constant, factors = loops[j]
    behind = texts[j + 1]
    size = len(root) * times
    # The word is written only where it is not longer than a text that stands written.
    if size > len(behind) or behind[:size] != root * times:
        return False
    texts[j + 1] = behind[size:]
    loops[j] = (root, times, constant + times, factors)
    return True


def make_join(texts, loops, j):
    """Makes the loop and the next one one loop; False if they have not the same word or a text between."""
    if j + 1 == len(loops) or texts[j + 1] != "":
        return False
    root, times, constant, factors = loops[j]
    other_root, other_times, other_constant, other_factors = loops[j + 1]
    if root != other_root or times != other_times:
        return False
    loops[j:j + 2] = [(root, times, constant + other_constant, sum_of_forms(factors, other_factors))]
    del texts[j + 1]
    return True


def make_long_move(texts, loops, move):
    """Makes a move that has a third part; False if it is no such move of the row by now."""
    if len(move) > 3:
        return False
    kind, j, told = move
    if kind == "root":
        return make_root(loops, j, told)
    if kind == "whole":
        return make_whole(loops, j, told)
    return kind == "part" and make_part(texts, loops, j, told)


def make_root(loops, j, n):
    """Makes the word n times shorter and the form n times as great; False if it cannot."""
    root, times, constant, factors = loops[j]
    # The root is no shorter word some times in a row, so the word is one n times just if n divides times.
    if not is_natural(n) or n < 2 or times % n != 0:
        return False
    loops[j] = (root, times // n, constant, factors)
    return True


def make_whole(loops, j, n):
    """Makes the form n times less and the word n times as long; False if it cannot."""
    root, times, constant, factors = loops[j]
    if not is_natural(n) or n < 2 or constant % (times * n) != 0:
        return False
    for factor in factors:
        if factor % (times * n) != 0:
            return False
    loops[j] = (root, times * n, constant, factors)
    return True


def make_part(texts, loops, j, form):
    """Makes two loops of the loop, the first one with the form; False if it cannot."""
    root, times, constant, factors = loops[j]
    if not is_form(form, len(factors)):
        return False
    first = scaled(form, times)
    left = left_of((constant,) + factors, first)
    if left is None or not is_open(first) or not is_open(left):
        return False
    loops[j:j + 1] = [(root, times, first[0], first[1:]), (root, times, left[0], left[1:])]
    texts.insert(j + 1, "")
    return True


def told_again(moves, known):
    """Whether the moves, any values, are just the known ones, all of which have been made."""
    if moves != known:
        return False
    # What is equal to a number of a known move is this number, or True or False, which no move has.
    return not any([
        move[1] is True or move[1] is False or move[0] == "part" and holds_truth(move[2])
        for move in moves
    ])


def holds_truth(form):
    """Whether True or False stands in the place of a number of the form."""
    return any([number is True or number is False for number in form])


def behind_rounds(moves, begin, end):
    """The number of the move behind all those from end on that tell again, once or more, those from begin to end."""
    known = moves[begin:end]
    number = end
    while told_again(moves[number:number + len(known)], known):
        number += len(known)
    return number
