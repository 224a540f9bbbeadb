"""Runs: the text of a row at counts, told by words that are written again and again.

A run is a pair (word, size): the first letters, so many, of the word (not empty) written again and again.
"""

from everycount.programs import value_of


def runs_at(row, counts):
    """The list of runs that tells the text of a row at counts; none of them is empty."""
    _, texts, loops = row
    runs = [(texts[0], len(texts[0]))]
    for (word, form), behind in zip(loops, texts[1:]):
        runs.append((word, len(word) * value_of(form, counts)))
        runs.append((behind, len(behind)))
    return [(word, size) for word, size in runs if size > 0]


def run_letter(runs, place):
    """The letter at a place of a text told by runs; behind its end "", which is ahead of all letters."""
    left = place
    for word, size in runs:
        if left < size:
            return word[left % len(word)]
        left = left - size
    return ""


def common_letters(one, other):
    """How many letters two texts told by runs have in common at the beginning."""
    ours = one[::-1]
    theirs = other[::-1]
    common = 0
    while ours and theirs:
        word, size = ours.pop()
        other_word, other_size = theirs.pop()
        both = size if size < other_size else other_size
        alike = alike_letters(word, other_word, both)
        common = common + alike
        if alike < both:
            return common
        if size > both:
            ours.append((turned_word(word, both), size - both))
        if other_size > both:
            theirs.append((turned_word(other_word, both), other_size - both))
    return common


def turned_word(word, gone):
    """The word that goes on when so many letters of a word written again and again are gone."""
    cut = gone % len(word)
    return word[cut:] + word[:cut]


def alike_letters(word, other, most):
    """How many letters, at most so many, two words written again and again have in common at the beginning."""
    # Where they agree for as many letters as both words have together, they agree for ever.
    looked = min(len(word) + len(other), most)
    first = first_letters(word, looked)
    second = first_letters(other, looked)
    if first == second:
        return most
    return [one == another for one, another in zip(first, second)].index(False)


def first_letters(word, size):
    """The first letters, so many, of the word written again and again."""
    return (word * (size // len(word) + 1))[:size]
