"""Runs: a text told by words that are written again and again.

A run is a pair (word, size): the first letters, so many, of the word (not empty) written again and again. The runs of
a text are a tuple of such pairs, none with the size 0. Their places are a tuple, too: where each run begins, and at
last where the text ends.
"""

from everycount.programs import value_of
from everycount.words import first_letters, times_each_turn, times_in, turned_word


def runs_at(row, counts):
    """The runs of the text of a row at counts."""
    _, texts, loops = row
    runs = [(texts[0], len(texts[0]))]
    for (word, form), behind in zip(loops, texts[1:]):
        runs.append((word, len(word) * value_of(form, counts)))
        runs.append((behind, len(behind)))
    return tuple([(word, size) for word, size in runs if size > 0])


def runs_text(runs):
    """The text that the runs tell."""
    return "".join([first_letters(word, size) for word, size in runs])


def places_of(runs):
    """The places of the runs."""
    places = [0]
    for _, size in runs:
        places.append(places[-1] + size)
    return tuple(places)


def run_number(places, place):
    """The number of the run that has this place of the text; how many runs there are if the text ends there."""
    low = 0
    high = len(places) - 1
    while low < high:
        middle = (low + high) // 2
        if places[middle + 1] <= place:
            low = middle + 1
        else:
            high = middle
    return low


def runs_between(runs, places, begin, end):
    """The runs of a part of a text: from the place begin to below end."""
    if begin == end:
        return ()
    found = []
    number = run_number(places, begin)
    while places[number] < end:
        gone = begin - places[number] if begin > places[number] else 0
        last = end if end < places[number + 1] else places[number + 1]
        found.append((turned_word(runs[number][0], gone), last - places[number] - gone))
        number += 1
    return tuple(found)


def run_letter(runs, place):
    """The letter at a place of a text told by runs; behind its end "", which is ahead of all letters."""
    left = place
    for word, size in runs:
        if left < size:
            return word[left % len(word)]
        left = left - size
    return ""


def common_letters(one, other):
    """How many letters two texts told by runs have in common at the beginning."""
    ours = list(one)[::-1]
    theirs = list(other)[::-1]
    common = 0
    while ours and theirs:
        word, size = ours.pop()
        other_word, other_size = theirs.pop()
        both = size if size < other_size else other_size
        alike = alike_letters(word, other_word, both)
        common = common + alike
        if alike < both:
            return common
        if size > both:
            ours.append((turned_word(word, both), size - both))
        if other_size > both:
            theirs.append((turned_word(other_word, both), other_size - both))
    return common


def alike_letters(word, other, most):
    """How many letters, at most so many, two words written again and again have in common at the beginning."""
    # Where they agree for as many letters as both words have together, they agree for ever.
    looked = min(len(word) + len(other), most)
    first = first_letters(word, looked)
    second = first_letters(other, looked)
    if first == second:
        return most
    return [one == another for one, another in zip(first, second)].index(False)


def order_of(one, other):
    """How one text told by runs stands to another one in the order of a dictionary: -1 ahead, 0 the same, 1 behind."""
    place = common_letters(one, other)
    letter = run_letter(one, place)
    other_letter = run_letter(other, place)
    if letter == other_letter:
        return 0
    return -1 if letter < other_letter else 1


def spare_letters(run, size):
    """How many letters, whole turns of its word, are left out of a run where words of this size are looked for."""
    word, letters = run
    # What is kept has such a word from each letter of the run's word on, and is itself in no one between its ends.
    turns = (letters - size + 1) // len(word) - 1
    return turns * len(word) if turns > 0 else 0


def short_text(runs, size):
    """The text of the runs without their spare letters: the words of this size in it are those of the whole text."""
    return "".join([first_letters(run[0], run[1] - spare_letters(run, size)) for run in runs])


def first_place(runs, wanted):
    """The first place of a text told by runs at which the wanted word (not empty) begins, or None."""
    left = short_text(runs, len(wanted)).find(wanted)
    if left < 0:
        return None
    ahead = 0
    for run in runs:
        word, size = run
        spare = spare_letters(run, len(wanted))
        if left < size - spare:
            # What begins behind the first turn, and not in it, is the word that goes over the end of the run.
            return ahead + left if left < len(word) else ahead + left + spare
        left = left - (size - spare)
        ahead = ahead + size
    return None


def times_in_runs(runs, wanted):
    """At how many places of a text told by runs the wanted word (not empty) begins; it may overlap itself."""
    many = times_in(short_text(runs, len(wanted)), wanted)
    for run in runs:
        spare = spare_letters(run, len(wanted))
        if spare > 0:
            many += spare // len(run[0]) * times_each_turn(run[0], wanted)
    return many
