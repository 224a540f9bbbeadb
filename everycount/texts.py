"""Texts of programs: programs told by letters and signs, and read again."""

from everycount.errors import BadText
from everycount.forms import is_open

COUNTS = ("n", "m", "p")
MOST_DIGITS = 600
MOST_DEPTH = 25


def program_text(program):
    """The text of a program: its parts one behind another, a loop in brackets."""
    return parts_text(program[1])


def parts_text(parts):
    """The texts of parts, one behind another."""
    return "".join([part_told(part) for part in parts])


def part_told(part):
    """The text of one part."""
    if part[0] == "text":
        return part[1]
    return "(" + form_text(part[1]) + ":" + parts_text(part[2]) + ")"


def form_text(form):
    """The terms of a form that are not 0, with + between; 0 if there are none."""
    terms = [term_text(factor, count) for factor, count in zip(form[1:], COUNTS) if factor != 0]
    if form[0] != 0 or len(terms) == 0:
        terms.append(str(form[0]))
    return "+".join(terms)


def term_text(factor, count):
    """A count with its factor ahead, if this is not 1."""
    if factor == 1:
        return count
    return str(factor) + count


def read_program(text, k):
    """The program with k counts that has this text; otherwise raises BadText(place), where no such text can go on."""
    reader = Reader(text, k)
    parts = read_parts(reader, 0, False)
    if reader.place < len(text):
        raise BadText(reader.place)
    return (k, parts)


class Reader:
    """A text that is read sign by sign; place is that of the next sign."""

    def __init__(self, signs, k):
        self.signs = signs
        self.k = k
        self.place = 0

    def next_sign(self):
        """The sign that is read next; "" at the end."""
        return self.signs[self.place:self.place + 1]

    def read_sign(self, sign):
        """Reads this sign; raises BadText(place) if it does not stand there."""
        if self.next_sign() != sign:
            raise BadText(self.place)
        self.place += 1

    def read_signs(self, first, last, most):
        """Reads all signs from the first to the last one that stand there, but not more than so many."""
        begin = self.place
        while self.place - begin < most and first <= self.next_sign() <= last:
            self.place += 1
        return self.signs[begin:self.place]


def read_parts(reader, depth, in_open_loop):
    """The parts that stand next, within loops of such a depth."""
    parts = []
    while True:
        word = reader.read_signs("a", "z", len(reader.signs))
        if word != "":
            parts.append(("text", word))
        if reader.next_sign() != "(" or depth == MOST_DEPTH:
            return tuple(parts)
        parts.append(read_loop(reader, depth + 1, in_open_loop))


def read_loop(reader, depth, in_open_loop):
    """The loop that stands next, which has such a depth."""
    reader.read_sign("(")
    form = read_form(reader, in_open_loop)
    reader.read_sign(":")
    parts = read_parts(reader, depth, in_open_loop or is_open(form))
    reader.read_sign(")")
    return ("loop", form, parts)


def read_form(reader, in_open_loop):
    """The form that stands next: in an open loop a fixed one."""
    numbers = [0] * (reader.k + 1)
    if reader.next_sign() == "0":
        reader.read_sign("0")
        return tuple(numbers)
    counts = () if in_open_loop else COUNTS[:reader.k]
    first = 0
    while True:
        number = read_number(reader)
        count = reader.next_sign()
        # The factor 1 is not told, so behind this number there is no count.
        if number == "1" or count not in counts[first:]:
            if number == "":
                raise BadText(reader.place)
            numbers[0] = int(number)
            return tuple(numbers)
        reader.read_sign(count)
        at = COUNTS.index(count)
        numbers[at + 1] = 1 if number == "" else int(number)
        if reader.next_sign() != "+":
            return tuple(numbers)
        reader.read_sign("+")
        first = at + 1


def read_number(reader):
    """The digits of the number from 1 on that stands next; "" if none does."""
    if not "1" <= reader.next_sign() <= "9":
        return ""
    return reader.read_signs("0", "9", MOST_DIGITS)
