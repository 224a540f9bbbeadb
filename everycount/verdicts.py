"""Verdicts: how the texts of two programs stand to each other, for every count."""

from itertools import permutations

from everycount.counting import counts_with_value
from everycount.programs import value_of
from everycount.rows import plain
from everycount.runs import common_letters, order_of, runs_at


def alike(one, other):
    """Whether both programs write the same text at all counts."""
    return plain(one) == plain(other)


def parted_at(one, other):
    """Counts and a place at which the texts part, or None if the programs are alike."""
    counts = least_parted(one, other)
    if counts is None:
        return None
    return (counts, common_at(plain(one), plain(other), counts))


def least_parted(one, other):
    """The least counts, by their sum, then ascending, at which the texts part; None if the programs are alike."""
    first = plain(one)
    second = plain(other)
    if first == second:
        return None
    total = 0
    # Unlike plain rows part at some counts, so the search has an end.
    while True:
        for counts in counts_with_value((0,) + (1,) * one[0], total):
            if sign_at(first, second, counts) != 0:
                return counts
        total += 1


def common_at(one, other, counts):
    """How many letters the texts of two rows at counts have in common at the beginning."""
    return common_letters(runs_at(one, counts), runs_at(other, counts))


def sign_at(one, other, counts):
    """How the text of one row at counts stands to that of another in a dictionary: -1, 0 or 1."""
    return order_of(runs_at(one, counts), runs_at(other, counts))


def renamed(one, other):
    """The first tuple of the counts' numbers that makes other write the text of one; None if there is none."""
    first = plain(one)
    second = plain(other)
    for numbers in permutations(range(one[0])):
        if first == renamed_row(second, numbers):
            return numbers
    return None


def renamed_row(row, numbers):
    """The row whose text at counts is that of the row at the counts with these numbers."""
    k, texts, loops = row
    return (k, texts, tuple([(word, renamed_form(form, numbers)) for word, form in loops]))


def renamed_form(form, numbers):
    """The form whose value at counts is that of the form at the counts with these numbers."""
    return form[:1] + tuple([form[numbers.index(count) + 1] for count in range(len(numbers))])


def settled_from(one, other):
    """A count from which on the texts of two plain rows with one count always stand to each other alike."""
    if one == other:
        return 0
    return 5 * (row_letters(one) + row_letters(other))


def row_letters(row):
    """How many letters stand in the texts and words of a row together."""
    _, texts, loops = row
    return sum([len(text) for text in texts]) + sum([len(word) for word, _ in loops])


def order(one, other):
    """How the text of one stands to that of other: at the counts in a tuple, and at all further ones."""
    first = plain(one)
    second = plain(other)
    signs = [sign_at(first, second, (count,)) for count in range(settled_from(first, second) + 1)]
    last = signs.pop()
    while signs and signs[-1] == last:
        signs.pop()
    return (tuple(signs), last)


def shared(one, other):
    """How many letters the texts share at the beginning: at the counts in a tuple, and a form for further ones."""
    first = plain(one)
    second = plain(other)
    edge = settled_from(first, second)
    sizes = [common_at(first, second, (count,)) for count in range(edge + 2)]
    factor = sizes[edge + 1] - sizes[edge]
    form = (sizes[edge] - factor * edge, factor)
    while sizes and sizes[-1] == value_of(form, (len(sizes) - 1,)):
        sizes.pop()
    return (tuple(sizes), form)
