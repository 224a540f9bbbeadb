"""Counting: lengths, letters, and the counts that write a told text."""

from everycount.errors import Unused
from everycount.forms import fixed_form, is_open, scaled, sum_of_forms
from everycount.programs import part_size, size_at, text_at


def length(program):
    """The form that tells how long the text is at all counts."""
    k, parts = program
    return amount_in_parts(parts, k, None)


def letters(program, letter):
    """The form that tells how often the letter stands in the text at all counts."""
    k, parts = program
    return amount_in_parts(parts, k, letter)


def amount_in_parts(parts, k, letter):
    """How often the letter stands in what the parts write, or any letter if it is None: a form."""
    total = fixed_form(0, k)
    for part in parts:
        total = sum_of_forms(total, amount_in_part(part, k, letter))
    return total


def amount_in_part(part, k, letter):
    """How often the letter stands in what one part writes, or any letter if it is None: a form."""
    if part[0] == "text":
        return fixed_form(amount_in_word(part[1], letter), k)
    times = part[1]
    inner = amount_in_parts(part[2], k, letter)
    # There is no open loop in an open one, so one of the two forms is fixed.
    if is_open(times):
        return scaled(times, inner[0])
    return scaled(inner, times[0])


def amount_in_word(word, letter):
    """How often the letter stands in the word, or any letter if it is None."""
    if letter is None:
        return len(word)
    return word.count(letter)


def letter_at(program, counts, place):
    """The letter at a place of the text at counts, or None behind its end."""
    return letter_in_parts(program[1], counts, place)


def letter_in_parts(parts, counts, place):
    """The letter at a place of what the parts write at counts, or None behind its end."""
    left = place
    for part in parts:
        size = part_size(part, counts)
        if left < size:
            return letter_in_part(part, counts, left)
        left = left - size
    return None


def letter_in_part(part, counts, place):
    """The letter at a place of what one part writes at counts, where it has a letter there."""
    if part[0] == "text":
        return part[1][place]
    return letter_in_parts(part[2], counts, place % size_at(part[2], counts))


def counts_of(program, text):
    """All counts, ascending, at which the program writes the text; raises Unused(number)."""
    form = length(program)
    for number, factor in enumerate(form[1:]):
        if factor == 0:
            raise Unused(number)
    found = counts_with_value(form, len(text))
    return tuple([counts for counts in found if text_at(program[1], counts) == text])


def counts_with_value(form, value):
    """All counts, ascending, at which the form, all of whose factors are above 0, has the value."""
    begun = [((), value - form[0])]
    for factor in form[1:]:
        begun = [
            (counts + (count,), left - factor * count)
            for counts, left in begun
            for count in range(left // factor + 1)
        ]
    return [counts for counts, left in begun if left == 0]
