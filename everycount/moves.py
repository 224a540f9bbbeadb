"""Moves that lead from the flat row of a program to that of another one."""

from everycount.moving import MovingRow, form_of, make_moves
from everycount.rows import flat


def moves(one, other):
    """A tuple of moves that lead from the flat row of one to that of other, or None if they are not alike."""
    ours = MovingRow(flat(one))
    theirs = MovingRow(flat(other))
    there = steps_to_plain(ours)
    back = steps_to_plain(theirs)
    if ours.row() != theirs.row():
        return None
    # Where both ways end with the same step, they have come together before it.
    while there and back and there[-1] == back[-1]:
        there.pop()
        back.pop()
    return tuple([move for move, _ in there] + [undoing for _, undoing in back[::-1]])


def steps_to_plain(moving):
    """Makes a moving row plain; the list of all moves that do it, each in a pair with the one that undoes it."""
    steps = []
    j = 0
    while j < len(moving.loops):
        move = next_move(moving, j)
        if move is None:
            j += 1
        else:
            steps.append((move, undoing_move(moving, move)))
            make_moves(moving, (move,))
    return steps


def next_move(moving, j):
    """A move that makes a moving row plainer at the loop j; None if it is plain up to there."""
    root, times, constant, _ = moving.loops[j]
    ahead = moving.texts[j]
    if times > 1:
        return ("root", j, times)
    if constant > 0:
        return ("out", j)
    if ahead != "" and ahead[-1] == root[-1]:
        return ("left", j)
    if j > 0 and ahead == "" and moving.loops[j - 1][0] == root:
        return ("join", j - 1)
    return None


def undoing_move(moving, move):
    """The move that undoes one which makes the moving row plainer, told before that one is made."""
    j = move[1]
    if move[0] == "root":
        return ("whole", j, move[2])
    if move[0] == "out":
        return ("in", j)
    if move[0] == "left":
        return ("right", j)
    return ("part", j, form_of(moving.loops[j]))
