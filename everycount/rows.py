"""Rows: programs written flat, and the one plain row of each program."""

from everycount.forms import is_form, is_natural, is_open, scaled, sum_of_forms
from everycount.words import is_word, matched_tail, repeated_word, root_of


def flat(program):
    """The row of a program in which fixed loops are written out, also those within open ones."""
    k, parts = program
    texts, loops = flat_parts(parts)
    return (k, texts, loops)


def flat_parts(parts):
    """The texts and the loops of the row that comes from the parts."""
    return joined_pieces([flat_part(part) for part in parts])


def joined_pieces(pieces):
    """The texts and the loops of several rows, one behind another."""
    texts = [""]
    loops = []
    for more_texts, more_loops in pieces:
        texts[-1] = texts[-1] + more_texts[0]
        texts.extend(more_texts[1:])
        loops.extend(more_loops)
    return (tuple(texts), tuple(loops))


def flat_part(part):
    """The texts and the loops of the row that comes from one part."""
    if part[0] == "text":
        return ((part[1],), ())
    if is_open(part[1]):
        return flat_open_loop(part[1], part[2])
    return flat_fixed_loop(part[1][0], part[2])


def flat_open_loop(form, parts):
    """The texts and the loops of the row that comes from an open loop."""
    # There is no open loop within, so what it repeats is one text without loops.
    texts, _ = flat_parts(parts)
    if texts[0] == "":
        return (("",), ())
    return (("", ""), ((texts[0], form),))


def flat_fixed_loop(times, parts):
    """The texts and the loops of the row that comes from a loop that goes so many times."""
    # What a loop that goes no times would repeat may be far too long for a row.
    if times == 0:
        return (("",), ())
    texts, loops = flat_parts(parts)
    if len(loops) == 0:
        return ((repeated_word(texts[0], times),), ())
    return joined_pieces([(texts, loops)] * times)


def row_program(row):
    """A program whose flat row is this one."""
    k, texts, loops = row
    parts = text_parts(texts[0])
    for (word, form), behind in zip(loops, texts[1:]):
        parts = parts + (("loop", form, text_parts(word)),) + text_parts(behind)
    return (k, parts)


def text_parts(word):
    """The parts that write the word: none if it is empty."""
    if word == "":
        return ()
    return (("text", word),)


def is_row(value):
    """Whether any value is a row, without regard to the limits."""
    if not isinstance(value, tuple) or len(value) != 3:
        return False
    k, texts, loops = value
    if not is_natural(k) or not isinstance(texts, tuple) or not isinstance(loops, tuple):
        return False
    if len(texts) != len(loops) + 1 or not all([is_word(text) for text in texts]):
        return False
    return all([is_row_loop(loop, k) for loop in loops])


def is_row_loop(value, k):
    """Whether the value is a loop of a row for k counts."""
    if not isinstance(value, tuple) or len(value) != 2:
        return False
    word, form = value
    return is_word(word) and word != "" and is_form(form, k) and is_open(form)


def plain(program):
    """The one plain row with the same text as the program at all counts."""
    return plain_row(flat(program))


def plain_row(row):
    """The one plain row with the same text as the row at all counts."""
    k, texts, loops = row
    heads = []
    settled = []
    ahead = texts[0]
    for loop, behind in zip(loops, texts[1:]):
        ahead, (word, form), tail = settled_loop(ahead, loop)
        if settled and ahead == "" and settled[-1][0] == word:
            settled[-1] = (word, sum_of_forms(settled[-1][1], form))
        else:
            heads.append(ahead)
            settled.append((word, form))
        ahead = tail + behind
    return (k, tuple(heads) + (ahead,), tuple(settled))


def settled_loop(ahead, loop):
    """The text ahead of a loop, the loop and a text behind it, turned until [8] lets the loop by."""
    word, form = loop
    root = root_of(word)
    form = scaled(form, len(word) // len(root))
    tail = repeated_word(root, form[0])
    matched = matched_tail(ahead, root)
    kept = len(ahead) - matched
    cut = len(root) - matched % len(root)
    turned = root[cut:] + root[:cut]
    return (ahead[:kept], (turned, (0,) + form[1:]), ahead[kept:] + tail)


def is_plain(row):
    """Whether a row is plain."""
    _, texts, loops = row
    for number, (word, form) in enumerate(loops):
        ahead = texts[number]
        if root_of(word) != word or form[0] != 0:
            return False
        if ahead != "" and ahead[-1] == word[-1]:
            return False
        if number > 0 and ahead == "" and loops[number - 1][0] == word:
            return False
    return True
