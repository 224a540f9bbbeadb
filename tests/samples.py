"""Programs and rows for the tests, and slow ways to tell what the document says of them."""

import itertools
import random


def text(word):
    return ("text", word)


def loop(form, *parts):
    return ("loop", form, parts)


def slow_text(parts, counts):
    """What the parts write at small counts, loop by loop."""
    letters = []
    for part in parts:
        if part[0] == "text":
            letters.append(part[1])
            continue
        times = part[1][0]
        for number, count in enumerate(counts):
            times += part[1][number + 1] * count
        for _ in range(times):
            letters.append(slow_text(part[2], counts))
    return "".join(letters)


def row_text(row, counts):
    """The text of a row at small counts."""
    written = row[1][0]
    for (word, form), behind in zip(row[2], row[1][1:]):
        times = form[0] + sum(factor * count for factor, count in zip(form[1:], counts))
        written += word * times + behind
    return written


def slow_flat(program):
    """The flat row, letter by letter."""
    texts, loops = [""], []

    def walk(parts):
        for part in parts:
            if part[0] == "text":
                texts[-1] += part[1]
            elif not any(part[1][1:]):
                for _ in range(part[1][0]):
                    walk(part[2])
            else:
                word = slow_text(part[2], (0,) * program[0])
                if word:
                    loops.append((word, part[1]))
                    texts.append("")

    walk(program[1])
    return (program[0], tuple(texts), tuple(loops))


def steps(row):
    """All rows that one step of [9] makes of a row."""
    k, texts, loops = row
    for number, (word, form) in enumerate(loops):
        ahead, behind = texts[number], texts[number + 1]
        for size in range(1, len(word)):
            if len(word) % size == 0 and word[:size] * (len(word) // size) == word:
                greater = tuple(each * (len(word) // size) for each in form)
                yield changed(row, number, ahead, (word[:size], greater), behind)
        if form[0] > 0:
            yield changed(row, number, ahead, (word, (form[0] - 1,) + form[1:]), word + behind)
        if ahead and ahead[-1] == word[-1]:
            yield changed(row, number, ahead[:-1], (word[-1] + word[:-1], form), word[-1] + behind)
        if number > 0 and ahead == "" and loops[number - 1][0] == word:
            both = tuple(one + other for one, other in zip(loops[number - 1][1], form))
            yield (k, texts[:number] + texts[number + 1:],
                   loops[:number - 1] + ((word, both),) + loops[number + 1:])


def changed(row, number, ahead, one_loop, behind):
    """The row with another loop of this number and other texts beside it."""
    k, texts, loops = row
    return (k, texts[:number] + (ahead, behind) + texts[number + 2:],
            loops[:number] + (one_loop,) + loops[number + 1:])


def slow_plain(row, chance):
    """The plain row, by steps of [9] in any order."""
    while True:
        found = list(steps(row))
        if not found:
            return row
        row = chance.choice(found)


def slow_is_plain(row):
    """Whether a row is plain: the four conditions of [8] as they stand."""
    _, texts, loops = row
    for number, (word, form) in enumerate(loops):
        for size in range(1, len(word)):
            if word == word[:size] * (len(word) // size):
                return False
        if form[0] != 0:
            return False
        if texts[number] and texts[number][-1] == word[-1]:
            return False
        if number and not texts[number] and loops[number - 1][0] == word:
            return False
    return True


def small_counts(k, most):
    """All counts up to a number, ascending."""
    return list(itertools.product(range(most + 1), repeat=k))


def any_word(chance, least, most, signs="ab"):
    return "".join(chance.choice(signs) for _ in range(chance.randint(least, most)))


def any_form(chance, k, is_open, most=3):
    if not is_open:
        return (chance.randint(0, most),) + (0,) * k
    while True:
        factors = tuple(chance.choice((0, 0, 1, 1, 2, 3)) for _ in range(k))
        if any(factors):
            return (chance.choice((0, 0, 1, 2)),) + factors


def any_parts(chance, k, depth, may_open):
    parts = []
    for _ in range(chance.randint(0, 3)):
        kind = chance.random()
        if kind < 0.45 or depth == 0:
            parts.append(("text", any_word(chance, 0, 3)))
        else:
            is_open = may_open and k > 0 and kind < 0.8
            inner = any_parts(chance, k, depth - 1, may_open and not is_open)
            parts.append(("loop", any_form(chance, k, is_open), inner))
    return tuple(parts)


def any_program(chance, most_counts=3):
    """A program whose row and plain row have at most 12 loops and 300 letters."""
    while True:
        k = chance.randint(0, most_counts)
        program = (k, any_parts(chance, k, 3, True))
        row = slow_flat(program)
        size = sum(len(word) for word in row[1])
        size += sum(len(word) * (form[0] + 1) for word, form in row[2])
        if len(row[2]) <= 12 and size <= 300:
            return program


def any_row(chance, k, loops, most=4, signs="ab"):
    texts = tuple(any_word(chance, 0, 2, signs) for _ in range(loops + 1))
    pairs = tuple((any_word(chance, 1, most, signs), any_form(chance, k, True)) for _ in range(loops))
    return (k, texts, pairs)


def programs(seed, many, most_counts=3):
    chance = random.Random(seed)
    return [any_program(chance, most_counts) for _ in range(many)]


def rows(seed, many):
    """Rows with 1 to 3 counts and up to 12 loops."""
    chance = random.Random(seed)
    return [any_row(chance, chance.randint(1, 3), chance.randint(0, 12)) for _ in range(many)]


def holds_list(value):
    """Whether a list stands in the value, at any depth."""
    if isinstance(value, tuple):
        return any(holds_list(part) for part in value)
    return isinstance(value, list)


def deep_loops(depth, k=1):
    """A program with loops so deep: the outermost open, the others fixed and once each."""
    parts = (("text", "ab"),)
    for _ in range(depth - 1):
        parts = (("loop", (1,) + (0,) * k, parts),)
    return (k, (("loop", (0, 1) + (0,) * (k - 1), parts),))
