"""Programs and rows for the tests, and slow ways to tell what the document says of them."""

import itertools
import random
import re


def text(word):
    return ("text", word)


def loop(form, *parts):
    return ("loop", form, parts)


def slow_text(parts, counts):
    """What the parts write at small counts, loop by loop."""
    letters = []
    for part in parts:
        if part[0] == "text":
            letters.append(part[1])
            continue
        times = part[1][0]
        for number, count in enumerate(counts):
            times += part[1][number + 1] * count
        for _ in range(times):
            letters.append(slow_text(part[2], counts))
    return "".join(letters)


def row_text(row, counts):
    """The text of a row at small counts."""
    written = row[1][0]
    for (word, form), behind in zip(row[2], row[1][1:]):
        times = form[0] + sum(factor * count for factor, count in zip(form[1:], counts))
        written += word * times + behind
    return written


def slow_flat(program):
    """The flat row, letter by letter."""
    texts, loops = [""], []

    def walk(parts):
        for part in parts:
            if part[0] == "text":
                texts[-1] += part[1]
            elif not any(part[1][1:]):
                for _ in range(part[1][0]):
                    walk(part[2])
            else:
                word = slow_text(part[2], (0,) * program[0])
                if word:
                    loops.append((word, part[1]))
                    texts.append("")

    walk(program[1])
    return (program[0], tuple(texts), tuple(loops))


def steps(row):
    """All rows that one step of [9] makes of a row."""
    k, texts, loops = row
    for number, (word, form) in enumerate(loops):
        ahead, behind = texts[number], texts[number + 1]
        for size in range(1, len(word)):
            if len(word) % size == 0 and word[:size] * (len(word) // size) == word:
                greater = tuple(each * (len(word) // size) for each in form)
                yield changed(row, number, ahead, (word[:size], greater), behind)
        if form[0] > 0:
            yield changed(row, number, ahead, (word, (form[0] - 1,) + form[1:]), word + behind)
        if ahead and ahead[-1] == word[-1]:
            yield changed(row, number, ahead[:-1], (word[-1] + word[:-1], form), word[-1] + behind)
        if number > 0 and ahead == "" and loops[number - 1][0] == word:
            both = tuple(one + other for one, other in zip(loops[number - 1][1], form))
            yield (k, texts[:number] + texts[number + 1:],
                   loops[:number - 1] + ((word, both),) + loops[number + 1:])


def changed(row, number, ahead, one_loop, behind):
    """The row with another loop of this number and other texts beside it."""
    k, texts, loops = row
    return (k, texts[:number] + (ahead, behind) + texts[number + 2:],
            loops[:number] + (one_loop,) + loops[number + 1:])


def slow_plain(row, chance):
    """The plain row, by steps of [9] in any order."""
    while True:
        found = list(steps(row))
        if not found:
            return row
        row = chance.choice(found)


def slow_is_plain(row):
    """Whether a row is plain: the four conditions of [8] as they stand."""
    _, texts, loops = row
    for number, (word, form) in enumerate(loops):
        for size in range(1, len(word)):
            if word == word[:size] * (len(word) // size):
                return False
        if form[0] != 0:
            return False
        if texts[number] and texts[number][-1] == word[-1]:
            return False
        if number and not texts[number] and loops[number - 1][0] == word:
            return False
    return True


def small_counts(k, most):
    """All counts up to a number, ascending."""
    return list(itertools.product(range(most + 1), repeat=k))


def any_word(chance, least, most, signs="ab"):
    return "".join(chance.choice(signs) for _ in range(chance.randint(least, most)))


def any_form(chance, k, is_open, most=3):
    if not is_open:
        return (chance.randint(0, most),) + (0,) * k
    while True:
        factors = tuple(chance.choice((0, 0, 1, 1, 2, 3)) for _ in range(k))
        if any(factors):
            return (chance.choice((0, 0, 1, 2)),) + factors


def any_parts(chance, k, depth, may_open):
    parts = []
    for _ in range(chance.randint(0, 3)):
        kind = chance.random()
        if kind < 0.45 or depth == 0:
            parts.append(("text", any_word(chance, 0, 3)))
        else:
            is_open = may_open and k > 0 and kind < 0.8
            inner = any_parts(chance, k, depth - 1, may_open and not is_open)
            parts.append(("loop", any_form(chance, k, is_open), inner))
    return tuple(parts)


def any_program(chance, most_counts=3):
    """A program whose row and plain row have at most 12 loops and 300 letters."""
    while True:
        k = chance.randint(0, most_counts)
        program = (k, any_parts(chance, k, 3, True))
        row = slow_flat(program)
        size = sum(len(word) for word in row[1])
        size += sum(len(word) * (form[0] + 1) for word, form in row[2])
        if len(row[2]) <= 12 and size <= 300:
            return program


def any_row(chance, k, loops, most=4, signs="ab"):
    texts = tuple(any_word(chance, 0, 2, signs) for _ in range(loops + 1))
    pairs = tuple((any_word(chance, 1, most, signs), any_form(chance, k, True)) for _ in range(loops))
    return (k, texts, pairs)


def programs(seed, many, most_counts=3):
    chance = random.Random(seed)
    return [any_program(chance, most_counts) for _ in range(many)]


def rows(seed, many):
    """Rows with 1 to 3 counts and up to 12 loops."""
    chance = random.Random(seed)
    return [any_row(chance, chance.randint(1, 3), chance.randint(0, 12)) for _ in range(many)]


def holds_list(value):
    """Whether a list stands in the value, at any depth."""
    if isinstance(value, tuple):
        return any(holds_list(part) for part in value)
    return isinstance(value, list)


def deep_loops(depth, k=1):
    """A program with loops so deep: the outermost open, the others fixed and once each."""
    parts = (("text", "ab"),)
    for _ in range(depth - 1):
        parts = (("loop", (1,) + (0,) * k, parts),)
    return (k, (("loop", (0, 1) + (0,) * (k - 1), parts),))


def slow_move(row, move):
    """The row behind one move, told rule by rule as [12] does; None if it cannot be made."""
    k, texts, loops = row
    kind, j = move[0], move[1]
    (word, form), ahead, behind = loops[j], texts[j], texts[j + 1]
    if kind == "left" and ahead and ahead[-1] == word[-1]:
        return changed(row, j, ahead[:-1], (word[-1] + word[:-1], form), word[-1] + behind)
    if kind == "right" and behind and behind[0] == word[0]:
        return changed(row, j, ahead + word[0], (word[1:] + word[0], form), behind[1:])
    if kind == "out" and form[0] >= 1:
        return changed(row, j, ahead, (word, (form[0] - 1,) + form[1:]), word + behind)
    if kind == "in" and behind[:len(word)] == word:
        return changed(row, j, ahead, (word, (form[0] + 1,) + form[1:]), behind[len(word):])
    if kind == "root":
        shorter = word[:len(word) // move[2]]
        if shorter and shorter * move[2] == word:
            return changed(row, j, ahead, (shorter, tuple(move[2] * number for number in form)), behind)
    if kind == "whole" and not any(number % move[2] for number in form):
        return changed(row, j, ahead, (word * move[2], tuple(number // move[2] for number in form)), behind)
    if kind == "join" and behind == "" and j + 1 < len(loops) and loops[j + 1][0] == word:
        both = tuple(one + other for one, other in zip(form, loops[j + 1][1]))
        return (k, texts[:j + 1] + texts[j + 2:], loops[:j] + ((word, both),) + loops[j + 2:])
    if kind == "part" and any(move[2][1:]):
        left = tuple(whole - piece for whole, piece in zip(form, move[2]))
        if min(left) >= 0 and any(left[1:]):
            return (k, texts[:j + 1] + ("",) + texts[j + 1:], loops[:j] + ((word, move[2]), (word, left)) + loops[j + 1:])
    return None


def undoing(row, move):
    """The move that undoes one that can be made of the row."""
    kind, j = move[0], move[1]
    if kind == "join":
        return ("part", j, row[2][j][1])
    if kind == "part":
        return ("join", j)
    opposite = {"left": "right", "right": "left", "out": "in", "in": "out", "root": "whole", "whole": "root"}
    return (opposite[kind],) + move[1:]


def told_moves(chance, row):
    """Moves of a row, such as can be made and others."""
    for j, (_, form) in enumerate(row[2]):
        for kind in ("left", "right", "out", "in", "join"):
            yield (kind, j)
        for n in (2, 3):
            yield ("root", j, n)
            yield ("whole", j, n)
        yield ("part", j, tuple(chance.randint(0, number) for number in form))


def row_size(row):
    """How many letters stand in the texts and words of a row."""
    return sum(map(len, row[1])) + sum(len(word) for word, _ in row[2])


def any_move(chance, row):
    """A move that can be made of a row, and the row behind it; None if there is none within the limits."""
    found = [(move, slow_move(row, move)) for move in told_moves(chance, row)]
    found = [(move, other) for move, other in found
             if other is not None and len(other[2]) <= 12 and row_size(other) <= 300]
    if not found:
        return None
    # Each kind as often as another one, so that no kind is rare.
    kind = chance.choice(sorted({move[0] for move, _ in found}))
    return chance.choice([pair for pair in found if pair[0][0] == kind])


def moved_on(chance, row, many):
    """A row behind so many moves from the row."""
    for _ in range(many):
        found = any_move(chance, row)
        if found is None:
            return row
        row = found[1]
    return row


def alike_program(chance, program, many=30):
    """A program that writes the same texts, written otherwise."""
    row = moved_on(chance, slow_flat(program), many)
    parts = [text(row[1][0])]
    for (word, form), behind in zip(row[2], row[1][1:]):
        cut = chance.randint(0, len(word))
        parts += [loop(form, text(word[:cut]), text(word[cut:])), text(behind)]
    return (row[0], tuple(parts))


def spoiled_row(chance, row):
    """The row with one letter or one number another one."""
    k, texts, loops = row
    if loops and chance.random() < 0.7:
        j = chance.randrange(len(loops))
        word, form = loops[j]
        if chance.random() < 0.5:
            place = chance.randrange(len(word))
            pair = (word[:place] + chance.choice("ab") + word[place + 1:], form)
        else:
            place = chance.randrange(len(form))
            pair = (word, form[:place] + (form[place] + 1,) + form[place + 1:])
        return (k, texts, loops[:j] + (pair,) + loops[j + 1:])
    j = chance.randrange(len(texts))
    place = chance.randint(0, len(texts[j]))
    return (k, texts[:j] + (texts[j][:place] + chance.choice("ab") + texts[j][place:],) + texts[j + 1:], loops)


def row_parts(row):
    """A program with this row, told in the plainest way."""
    parts = [text(row[1][0])]
    for (word, form), behind in zip(row[2], row[1][1:]):
        parts += [loop(form, text(word)), text(behind)]
    return (row[0], tuple(parts))


def any_pair(chance, most_counts=2, loops=3):
    """Two programs with as many counts: alike, nearly alike, or any."""
    k = chance.randint(0, most_counts)
    one = row_parts(any_row(chance, k, chance.randint(0, loops) if k else 0, 3))
    kind = chance.random()
    if kind < 0.4:
        return one, alike_program(chance, one)
    if kind < 0.8:
        return one, row_parts(spoiled_row(chance, slow_flat(alike_program(chance, one, 10))))
    return one, row_parts(any_row(chance, k, chance.randint(0, loops) if k else 0, 2))


def slow_common(one, other):
    """How many letters two strings have in common at the beginning."""
    place = 0
    while place < min(len(one), len(other)) and one[place] == other[place]:
        place += 1
    return place


def least_counts(k):
    """All counts by their sum, then ascending, without end."""
    total = 0
    while k or total == 0:
        yield from (counts for counts in small_counts(k, total) if sum(counts) == total)
        total += 1


def slow_least_parted(one, other):
    """The least counts at which two programs part, or None if there are none up to the sum that [10] tells."""
    most = max(1, len(slow_flat(one)[2]) + len(slow_flat(other)[2]))
    for counts in least_counts(one[0]):
        if sum(counts) > most:
            return None
        if slow_text(one[1], counts) != slow_text(other[1], counts):
            return counts
    return None


def slow_count(told, word):
    """At how many places of a string the word begins."""
    return sum(told.startswith(word, place) for place in range(len(told)))


def slow_held(program, word):
    """At which small counts the word stands in the text: a dict of True and False."""
    counts = small_counts(program[0], len(word) + 1)
    return {each: word in slow_text(program[1], each) for each in counts}


def any_part_of(chance, told, size):
    """A word of this size that stands in the string, or any if it has less letters."""
    if len(told) < size:
        return any_word(chance, size, size)
    place = chance.randint(0, len(told) - size)
    return told[place:place + size]


def slow_terms(told, k, is_open):
    """The form of its terms, or None if the string is none."""
    if told == "0":
        return (0,) * (k + 1)
    form, seen = [0] * (k + 1), 0
    for term in told.split("+"):
        match = re.fullmatch("([1-9][0-9]{0,599})?([nmp]?)", term)
        if match is None or term == "":
            return None
        number, count = match.groups()
        # The constant stands behind all counts.
        place = "nmp"[:k].find(count) + 1 if count else k + 1
        if place <= seen or count and (number == "1" or not is_open):
            return None
        form[place if count else 0] = int(number or 1)
        seen = place
    return tuple(form)


def slow_read(told, k, depth=25, is_open=True):
    """The parts of a program's text, or None if the string is none: bracket by bracket."""
    parts = []
    while told:
        word = re.match("[a-z]*", told).group()
        if word:
            parts.append(text(word))
            told = told[len(word):]
            continue
        end = closing(told)
        if depth == 0 or end is None or ":" not in told[:end]:
            return None
        terms, _, inner = told[1:end].partition(":")
        form = slow_terms(terms, k, is_open)
        inner = None if form is None else slow_read(inner, k, depth - 1, is_open and not any(form[1:]))
        if inner is None:
            return None
        parts.append(("loop", form, inner))
        told = told[end + 1:]
    return tuple(parts)


def closing(told):
    """Where the bracket closes that the string begins with, or None."""
    depth = 0
    for place, sign in enumerate(told):
        depth += (sign == "(") - (sign == ")")
        if depth <= 0:
            return place if sign == ")" and place else None
    return None


def can_go_on(told, k):
    """Whether some text of a program begins with the string: it can then be ended in one of three ways."""
    brackets = ")" * (told.count("(") - told.count(")"))
    return any(slow_read(told + ending + brackets, k) is not None for ending in ("", ":", "7:"))


def slow_fault(told, k):
    """The first place at which no text of a program goes on, or None if the string is one."""
    if slow_read(told, k) is not None:
        return None
    size = 0
    while size < len(told) and can_go_on(told[:size + 1], k):
        size += 1
    return size


def merged(parts):
    """The parts without empty texts, and those that stand side by side as one."""
    found = []
    for part in parts:
        if part[0] == "loop":
            found.append(("loop", part[1], merged(part[2])))
        elif part[1] and found and found[-1][0] == "text":
            found[-1] = text(found[-1][1] + part[1])
        elif part[1]:
            found.append(part)
    return tuple(found)
