"""Turning: programs made of other programs."""

from everycount.forms import fixed_form, scaled, sum_of_forms


def joined(one, other):
    """A program that writes the text of one and then that of other."""
    return (one[0], one[1] + other[1])


def mirrored(program):
    """A program that writes the letters in the opposite order."""
    return (program[0], mirrored_parts(program[1]))


def mirrored_parts(parts):
    """Parts that write the letters of the parts in the opposite order."""
    return tuple([mirrored_part(part) for part in parts[::-1]])


def mirrored_part(part):
    """A part that writes the letters of the part in the opposite order."""
    if part[0] == "text":
        return ("text", part[1][::-1])
    return ("loop", part[1], mirrored_parts(part[2]))


def filled(program, letter, word):
    """A program that writes the word in the place of each such letter."""
    return (program[0], filled_parts(program[1], letter, word))


def filled_parts(parts, letter, word):
    """The parts with the word in the place of each such letter."""
    return tuple([filled_part(part, letter, word) for part in parts])


def filled_part(part, letter, word):
    """The part with the word in the place of each such letter."""
    if part[0] == "text":
        return ("text", part[1].replace(letter, word))
    return ("loop", part[1], filled_parts(part[2], letter, word))


def repeated(program, number):
    """A program that writes the text so many times."""
    k, parts = program
    return (k, (("loop", fixed_form(number, k), parts),))


def put(program, number, form):
    """A program with one count less: the form stands in the place of the count with this number."""
    k, parts = program
    return (k - 1, parts_with_form(parts, number, form))


def parts_with_form(parts, number, form):
    """The parts with the form in the place of the count with this number."""
    return tuple([part_with_form(part, number, form) for part in parts])


def part_with_form(part, number, form):
    """The part with the form in the place of the count with this number."""
    if part[0] == "text":
        return part
    return ("loop", form_with_form(part[1], number, form), parts_with_form(part[2], number, form))


def form_with_form(outer, number, form):
    """The form outer, in which another form stands in the place of the count with this number."""
    others = outer[:number + 1] + outer[number + 2:]
    return sum_of_forms(others, scaled(form, outer[number + 1]))
