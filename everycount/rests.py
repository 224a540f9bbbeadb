"""Rests: what is left of one text behind another, and the program whose text stands in another one again and again."""

from math import gcd

from everycount.forms import is_open, left_of
from everycount.rows import joined_pieces, plain, plain_row
from everycount.words import first_letters, root_of, turned_word


def rest(one, other):
    """The plain row of what is left of the text of one behind that of other, at all counts; None if there is none."""
    other_row = plain(other)
    behind = row_behind_loops(plain(one), other_row)
    if behind is None:
        return None
    return row_behind_word(behind, other_row[1][-1])


def row_behind_loops(row, other):
    """The plain row of what is left of a plain row behind the last loop of another one; None if there is none."""
    k, texts, loops = row
    _, other_texts, other_loops = other
    many = len(other_loops)
    if many == 0:
        return row
    # Where a row stands behind another one, all of that one's loops but the last are those of both together.
    if many > len(loops) or texts[:many] != other_texts[:many] or loops[:many - 1] != other_loops[:many - 1]:
        return None
    word, form = loops[many - 1]
    other_word, other_form = other_loops[many - 1]
    left = left_of(form, other_form)
    if word != other_word or left is None:
        return None
    if is_open(left):
        return (k, ("",) + texts[many:], ((word, left),) + loops[many:])
    return (k, texts[many:], loops[many:])


def row_behind_word(row, word):
    """The plain row of what is left of a plain row behind a word; None if there is none."""
    k, texts, loops = row
    left = word
    turned = []
    for text, (loop_word, form) in zip(texts, loops):
        if len(left) <= len(text):
            break
        # The loop goes no times at some counts and very often at others, so the word goes through it or is in no text.
        through = left[len(text):]
        if not left.startswith(text) or first_letters(loop_word, len(through)) != through:
            return None
        turned.append((turned_word(loop_word, len(through)), form))
        left = through
    gone = len(turned)
    if not texts[gone].startswith(left):
        return None
    return (k, ("",) * gone + (texts[gone][len(left):],) + texts[gone + 1:], tuple(turned) + loops[gone:])


def power(program):
    """The plain row of a program, and a number: this text stands so many times in a row in that of the program given,
    and no text does so more often."""
    row = plain(program)
    _, texts, loops = row
    if len(loops) == 0:
        return power_of_word(row)
    if len(loops) == 1 and texts[0] == "":
        return power_of_loop(row)
    for number in range(len(loops), 1, -1):
        base = base_of(row, number)
        if base is not None and repeated_plain(base, number) == row:
            return (base, number)
    return (row, 1)


def power_of_word(row):
    """The power of a plain row without loops."""
    k, texts, _ = row
    if texts[0] == "":
        return (row, 1)
    root = root_of(texts[0])
    return ((k, (root,), ()), len(texts[0]) // len(root))


def power_of_loop(row):
    """The power of a plain row with one loop and no text ahead of it: the only one that needs no loop for each time."""
    k, texts, loops = row
    word, form = loops[0]
    number = len(texts[1]) // len(word)
    if texts[1] != word * number:
        return (row, 1)
    for factor in form[1:]:
        number = gcd(number, factor)
    divided = tuple([factor // number for factor in form])
    return ((k, ("", texts[1][:len(texts[1]) // number]), ((word, divided),)), number)


def base_of(row, number):
    """The one plain row that may be this one when it stands so many times, at least 2, in a row, or None."""
    k, texts, loops = row
    own_loops = loops_of_base(loops, number)
    if own_loops is None:
        return None
    many = len(own_loops)
    # What it has behind its last loop goes through no other one where it stands last.
    size = letters_in(texts) // number - letters_in(texts[:many])
    return (k, texts[:many] + (texts[-1][len(texts[-1]) - size:],), own_loops)


def letters_in(texts):
    """How many letters the texts have together."""
    return sum([len(text) for text in texts])


def loops_of_base(loops, number):
    """The loops of the one plain row that may have these loops when it stands so many times in a row, or None."""
    if len(loops) % number == 0:
        return loops[:len(loops) // number]
    if len(loops) % number != 1:
        return None
    # Each time but the last its last loop is joined with its first one.
    many = len(loops) // number
    word, form = loops[many]
    form = left_of(form, loops[0][1])
    if form is None or not is_open(form):
        return None
    return loops[:many] + ((word, form),)


def repeated_plain(row, number):
    """The plain row of the text of a row so many times in a row."""
    k, texts, loops = row
    more_texts, more_loops = joined_pieces([(texts, loops)] * number)
    return plain_row((k, more_texts, more_loops))
