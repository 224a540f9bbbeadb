"""Holding: which words stand in the texts of a program, and how often, for every count."""

from everycount.rows import plain
from everycount.runs import runs_at, times_in_runs


def may_hold(program, word):
    """Whether the word stands somewhere in the text at some counts."""
    return held_at(program, word) is not None


def must_hold(program, word):
    """Whether the word stands somewhere in the text at all counts."""
    row = plain(program)
    for turns in all_turns(row, len(word)):
        if word not in text_with_turns(row, turns):
            return False
    return True


def held_at(program, word):
    """Counts, each at most the length of the word, at which it stands in the text, or None."""
    row = plain(program)
    for turns, counts in all_turns(row, len(word)).items():
        if word in text_with_turns(row, turns):
            return counts
    return None


def often(program, word):
    """A constant, perhaps below 0, and factors: they tell at how many places of the text the word begins, for all
    counts that are each at least the length of the word."""
    row = plain(program)
    counts = (len(word),) * row[0]
    many = times_in_runs(runs_at(row, counts), word)
    factors = []
    for number, count in enumerate(counts):
        greater = counts[:number] + (count + 1,) + counts[number + 1:]
        factors.append(times_in_runs(runs_at(row, greater), word) - many)
    return (many - len(word) * sum(factors),) + tuple(factors)


def all_turns(row, size):
    """How often the loops of a plain row go, for all counts: a dict of such tuples, each with counts at which it is so.
    A loop goes no more often there than is enough to have all words of the size that it ever has."""
    k, _, loops = row
    enough = [enough_turns(word, size) for word, _ in loops]
    found = {(0,) * len(loops): ()}
    for number in range(k):
        factors = [form[number + 1] for _, form in loops]
        found = turns_with_count(found, factors, enough)
    return found


def enough_turns(word, size):
    """How many turns of a loop are enough to have all words of the size that more turns have."""
    # Then there is one from each letter of the loop's word on, and none begins ahead of the loop and ends behind it.
    return (size - 2) // len(word) + 2


def turns_with_count(found, factors, enough):
    """The turns that come from those which have been found, when one count more, with these factors, is told."""
    reached = {}
    for turns, counts in found.items():
        more = turns
        count = 0
        # Where turns have been reached before, those that come from them have been, too.
        while more not in reached:
            reached[more] = counts + (count,)
            more = added_turns(more, factors, enough)
            count += 1
    return reached


def added_turns(turns, factors, enough):
    """The turns when the count that has these factors is one greater."""
    return tuple([
        turn + factor if turn + factor < most else most
        for turn, factor, most in zip(turns, factors, enough)
    ])


def text_with_turns(row, turns):
    """The text of a row when its loops go so often."""
    _, texts, loops = row
    pieces = [word * turn + behind for (word, _), turn, behind in zip(loops, turns, texts[1:])]
    return texts[0] + "".join(pieces)
