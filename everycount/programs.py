"""Programs: what they are, and the texts that they write."""

from everycount.errors import TooLong
from everycount.forms import is_form, is_natural, is_open
from everycount.words import is_word, repeated_word

MOST_LETTERS = 1000000


def value_of(form, counts):
    """The value of a form at counts; its constant may be below 0."""
    return form[0] + sum([factor * count for factor, count in zip(form[1:], counts)])


def is_program(value):
    """Whether any value is a program, without regard to the limits."""
    if not isinstance(value, tuple) or len(value) != 2 or not is_natural(value[0]):
        return False
    # A list of what is still to be looked at, since values may be nested deeper than calls may be.
    waiting = [(value[1], False)]
    while waiting:
        parts, in_open_loop = waiting.pop()
        if not isinstance(parts, tuple):
            return False
        for part in parts:
            if is_loop_part(part, value[0]):
                if in_open_loop and is_open(part[1]):
                    return False
                waiting.append((part[2], in_open_loop or is_open(part[1])))
            elif not is_text_part(part):
                return False
    return True


def is_text_part(value):
    """Whether the value is a part that is a text."""
    return isinstance(value, tuple) and len(value) == 2 and value[0] == "text" and is_word(value[1])


def is_loop_part(value, k):
    """Whether the value is a loop for k counts, if what it repeats is a tuple of parts."""
    return isinstance(value, tuple) and len(value) == 3 and value[0] == "loop" and is_form(value[1], k)


def size_at(parts, counts):
    """How many letters the parts write at counts."""
    return sum([part_size(part, counts) for part in parts])


def part_size(part, counts):
    """How many letters one part writes at counts."""
    if part[0] == "text":
        return len(part[1])
    return value_of(part[1], counts) * size_at(part[2], counts)


def written(program, counts):
    """The text of a program at counts; raises TooLong(length) if it has more than 10**6 letters."""
    parts = program[1]
    size = size_at(parts, counts)
    if size > MOST_LETTERS:
        raise TooLong(size)
    return text_at(parts, counts)


def text_at(parts, counts):
    """What the parts write at counts, however long it is."""
    return "".join([part_text(part, counts) for part in parts])


def part_text(part, counts):
    """What one part writes at counts."""
    if part[0] == "text":
        return part[1]
    times = value_of(part[1], counts)
    # What a loop that goes no times would repeat may be far too long to be written.
    if times == 0:
        return ""
    return repeated_word(text_at(part[2], counts), times)
