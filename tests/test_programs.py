"""[4]: forms, programs and their texts."""

import copy
import random
import unittest

from everycount.errors import TooLong
from everycount.programs import is_program, value_of, written
from tests.samples import deep_loops, loop, programs, slow_text, small_counts, text

EXAMPLE = (1, (("text", "a"), ("loop", (1, 2), (("text", "bc"),))))

LONG_NUMBER = 10 ** 599 + 7


class ValueOf(unittest.TestCase):
    def test_no_counts(self):
        self.assertEqual(value_of((5,), ()), 5)
        self.assertEqual(value_of((0,), ()), 0)

    def test_some_counts(self):
        self.assertEqual(value_of((1, 2), (0,)), 1)
        self.assertEqual(value_of((1, 2), (5,)), 11)
        self.assertEqual(value_of((3, 1, 10), (4, 7)), 77)
        self.assertEqual(value_of((0, 0, 0, 1), (9, 9, 2)), 2)

    def test_more_than_three_counts(self):
        self.assertEqual(value_of((1, 2, 3, 4, 5), (1, 10, 100, 1000)), 5433)
        self.assertEqual(value_of((1,) * 51, tuple(range(50))), 1 + sum(range(50)))

    def test_long_numbers(self):
        self.assertEqual(value_of((LONG_NUMBER, LONG_NUMBER), (LONG_NUMBER,)), LONG_NUMBER + LONG_NUMBER ** 2)

    def test_constant_below_zero(self):
        self.assertEqual(value_of((-3, 2), (1,)), -1)
        self.assertEqual(value_of((-3, 2), (2,)), 1)
        self.assertEqual(value_of((-LONG_NUMBER,), ()), -LONG_NUMBER)

    def test_by_name(self):
        self.assertEqual(value_of(counts=(5,), form=(1, 2)), 11)


def open_within_open(between):
    """An open loop in an open loop, with so many fixed loops between."""
    parts = (loop((0, 1), text("a")),)
    for _ in range(between):
        parts = (loop((2, 0), *parts),)
    return (1, (loop((0, 1), *parts),))


PROGRAMS = [
    EXAMPLE,
    (0, ()),
    (0, (text(""),)),
    (0, (text("abcxyz"),)),
    (0, (loop((3,), text("a")),)),
    (2, (loop((0, 0, 0)),)),
    (1, (loop((0, 1)), loop((0, 1)))),
    (1, (loop((2, 0), loop((0, 1), loop((2, 0), text("a")), text("b"))),)),
    (3, (loop((1, 2, 3, 4), text("a")),)),
    (5, (loop((0, 0, 0, 0, 0, 1), text("a")),)),
    (LONG_NUMBER, ()),
    (LONG_NUMBER, (text("a"),)),
    (1, (loop((LONG_NUMBER, LONG_NUMBER), text("a")),)),
    (0, (loop((1,), loop((1,), loop((1,), loop((1,), loop((1,), text("a")))))),)),
    (0, (text("a" * 1000),)),
    (0, (text("a"),) * 990),
    (2, (text("abcdefghijklmnopqrstuvwxyz"), loop((1, 0, 5)), text(""))),
]

NOT_PROGRAMS = [
    None, True, False, 0, 7, -1, "", "text", "ab", (), [], (1,), (1, (), ()), ("", ()),
    [1, ()], (1, []), (1, None), (1, "ab"), (1, 2), (1, True),
    (True, ()), (False, ()), (-1, ()), (-LONG_NUMBER, ()), (None, ()), ("1", ()), ((1,), ()),
    (1, ("text", "a")), (1, (("text",),)), (1, (("text", "a", "b"),)), (1, ((),)), (1, (None,)),
    (1, (True,)), (1, (0,)), (1, ("",)), (1, ("te",)), (1, ("abc",)),
    (1, (["text", "a"],)), (1, (("text", ["a"]),)), (1, (("text", ("a",)),)), (1, (("text", None),)),
    (1, (("text", 1),)), (1, (("word", "a"),)), (1, ((0, "a"),)), (1, (("Text", "a"),)),
    (1, ((("text",), "a"),)), (1, (("loop", "a"),)), (1, (("text", (0, 1), ()),)),
    (1, (("loop", (0, 1)),)), (1, (("loop", (0, 1), (), ()),)), (1, (("loop", (), (0, 1)),)),
    (1, (("loop", [0, 1], ()),)), (1, (["loop", (0, 1), ()],)), (1, (("loop", (0, 1), []),)),
    (1, (("loop", (0, 1), None),)), (1, (("loop", (0, 1), "ab"),)), (1, (("loop", (0, 1), 0),)),
    (1, (("loop", None, ()),)), (1, (("loop", 1, ()),)), (1, (("loop", "ab", ()),)),
    (1, (("loop", (), ()),)), (1, (("loop", (1,), ()),)), (1, (("loop", (1, 0, 0), ()),)),
    (0, (("loop", (1, 0), ()),)), (2, (("loop", (1, 0), ()),)),
    (1, (("loop", (True, 0), ()),)), (1, (("loop", (0, True), ()),)), (1, (("loop", (0, False), ()),)),
    (1, (("loop", (-1, 1), ()),)), (1, (("loop", (1, -1), ()),)), (1, (("loop", (None, 1), ()),)),
    (1, (("loop", ("1", 1), ()),)), (1, (("loop", ((1,), 1), ()),)),
    (1, (("loop", (1, 1), (("text", "a"), "b")),)),
    (1, (("loop", (2, 0), (("loop", (0, True), ()),)),)),
    (1, (("loop", (2, 0), (("loop", (2, 0), (("loop", (False, 0), ()),)),)),)),
    (1, (("loop", (2, 0), (("loop", (2, 0), [("text", "a")]),)),)),
    (1, (("loop", (2, 0), (("loop", (2, 0), (["text", "a"],)),)),)),
    (1, (("loop", (2, 0), (("loop", (2, 0), (("text", "A"),)),)),)),
    (1, (("text", "a"), ("loop", (1, 1), ()), ("text", "a b"))),
    (1, (("loop", (0, 0), (("loop", (0, 1), (("loop", (0, 1), ()),)),)),)),
]

NO_WORDS = ["A", "Z", "aB", " ", "a b", "a\n", "\n", "1", "a1", "-", "`", "{", "\u00e4", "\u00df", "\u03b1",
            "\u0430", "\uff41", "a\u0301", "\u00aa", "\x00", "\ud800", "%", "_"]


class IsProgram(unittest.TestCase):
    def test_programs(self):
        for program in PROGRAMS:
            self.assertIs(is_program(program), True, program)

    def test_other_values(self):
        for value in NOT_PROGRAMS:
            self.assertIs(is_program(value), False, value)

    def test_words(self):
        for word in NO_WORDS:
            self.assertIs(is_program((0, (text(word),))), False, word)
            self.assertIs(is_program((1, (loop((0, 1), text(word)),))), False, word)

    def test_open_loop_within_an_open_one(self):
        for between in range(6):
            self.assertIs(is_program(open_within_open(between)), False, between)
        self.assertIs(is_program((2, (loop((0, 1, 0), loop((0, 0, 1))),))), False)
        self.assertIs(is_program((1, (loop((0, 1), text("a"), loop((2, 0)), loop((5, 1))),))), False)

    def test_open_loop_behind_an_open_one(self):
        inner = loop((0, 1), loop((2, 0), text("a")))
        self.assertIs(is_program((1, (inner, inner, loop((2, 0), inner, inner), inner))), True)

    def test_each_part_made_wrong(self):
        """True, False, lists, and numbers below 0 in the place of anything in a program."""
        for program in PROGRAMS:
            for other in wrong_copies(program):
                self.assertIs(is_program(other), False, other)

    def test_values_to_thirty_levels(self):
        value = ()
        for _ in range(29):
            value = (1, (value,))
        self.assertIs(is_program(value), False)
        value = []
        for _ in range(29):
            value = [value]
        self.assertIs(is_program(value), False)
        self.assertIs(is_program((1, value)), False)
        self.assertIs(is_program((1, tuple(value))), False)

    def test_values_of_two_thousand_parts(self):
        parts = (text("a"), loop((1, 1), text("b"))) * 220
        self.assertIs(is_program((1, parts)), True)
        self.assertIs(is_program((1, parts + (text("B"),))), False)
        self.assertIs(is_program((1, parts + (["text", "a"],))), False)
        self.assertIs(is_program((0,) * 2000), False)
        self.assertIs(is_program([None] * 2000), False)

    def test_deep_programs(self):
        self.assertIs(is_program(deep_loops(25)), True)
        self.assertIs(is_program(deep_loops(25, 3)), True)
        self.assertIs(is_program((2, deep_loops(25, 2)[1] * 3)), True)
        self.assertIs(is_program((1, (loop((0, 1), *deep_loops(25)[1]),))), False)

    def test_values_deeper_than_calls_may_be(self):
        self.assertIs(is_program(deep_loops(5000)), True)
        value = []
        for _ in range(5000):
            value = [value]
        self.assertIs(is_program((1, (loop((0, 1), value),))), False)

    def test_argument_is_not_changed(self):
        value = [1, [["text", ["a"]], ["loop", [1, 2], []]]]
        kept = copy.deepcopy(value)
        self.assertIs(is_program(value), False)
        self.assertIs(is_program((1, value)), False)
        self.assertEqual(value, kept)

    def test_later_changes_of_a_list(self):
        inner = []
        value = (1, (loop((0, 1), text("a")), ("loop", (2, 0), inner)))
        self.assertIs(is_program(value), False)
        inner.append(("text", "a"))
        self.assertIs(is_program(value), False)
        self.assertIs(is_program((1, (loop((0, 1), text("a")), ("loop", (2, 0), tuple(inner))))), True)

    def test_any_programs(self):
        for program in programs(41, 300):
            self.assertIs(is_program(program), True)
            self.assertIs(is_program(value=program), True)

    def test_any_values(self):
        """Values made at random are programs just where a slow reading of [4] says so."""
        chance = random.Random(42)
        seen = {True: 0, False: 0}
        for program in programs(43, 400):
            value = spoiled(chance, program)
            found = slow_is_program(value)
            seen[found] += 1
            self.assertIs(is_program(value), found, value)
        self.assertGreater(min(seen.values()), 30)


def wrong_copies(value):
    """Copies of a value, each with one thing in it that no program has at such a place."""
    if isinstance(value, tuple):
        yield list(value)
        yield value + (None,)
        for number, part in enumerate(value):
            for other in wrong_copies(part):
                yield value[:number] + (other,) + value[number + 1:]
    elif isinstance(value, int):
        yield from (True, False, -1, None, str(value % 10), (value,))
    else:
        yield from (value + " ", value.upper() + "A", None, list(value), (value,))


def spoiled(chance, value):
    """The value, or one in which a part is another one."""
    if isinstance(value, tuple) and value and chance.random() < 0.9:
        number = chance.randrange(len(value))
        return value[:number] + (spoiled(chance, value[number]),) + value[number + 1:]
    return chance.choice([value, value, 0, 1, 2, 10 ** 600, True, False, None, -1, "", "a", "text", "loop", "A",
                          (), [], (0, 1), (1, 0), (0, 1, 1), text("b"), loop((0, 1), text("b")),
                          (text("a"),), (loop((1, 0)),), (loop((1,)), text("")), [text("a")]])


def slow_is_program(value):
    """What [4] says of programs, word by word."""
    def natural(number):
        return type(number) is int and number >= 0

    def fits(parts, k, within):
        return type(parts) is tuple and all(fits_part(part, k, within) for part in parts)

    def fits_part(part, k, within):
        if type(part) is not tuple or not part:
            return False
        if part[0] == "text" and len(part) == 2:
            return type(part[1]) is str and set(part[1]) <= set("abcdefghijklmnopqrstuvwxyz")
        if part[0] != "loop" or len(part) != 3 or type(part[1]) is not tuple:
            return False
        if len(part[1]) != k + 1 or not all(natural(number) for number in part[1]):
            return False
        opened = any(part[1][1:])
        return not (within and opened) and fits(part[2], k, within or opened)

    if type(value) is not tuple or len(value) != 2 or not natural(value[0]):
        return False
    return fits(value[1], value[0], False)


class Written(unittest.TestCase):
    def test_example_of_the_document(self):
        self.assertEqual(written(EXAMPLE, (0,)), "abc")
        self.assertEqual(written(EXAMPLE, (1,)), "abcbcbc")
        self.assertEqual(written(counts=(1,), program=EXAMPLE), "abcbcbc")

    def test_no_counts(self):
        self.assertEqual(written((0, ()), ()), "")
        self.assertEqual(written((0, (text("ab"), text(""), loop((2,), text("c"), loop((3,), text("d"))))), ()),
                         "abcdddcddd")

    def test_loops_within_loops(self):
        program = (2, (loop((2, 0, 0), text("a"), loop((1, 0, 2), text("b"), loop((2, 0, 0), text("c")))),
                       loop((0, 1, 0))))
        self.assertEqual(written(program, (9, 0)), "abccabcc")
        self.assertEqual(written(program, (0, 1)), "abccbccbccabccbccbcc")

    def test_loops_that_go_no_times(self):
        program = (1, (loop((0, 0), text("a")), loop((0, 3), text("b")), text("c")))
        self.assertEqual(written(program, (0,)), "c")
        self.assertEqual(written(program, (1,)), "bbbc")

    def test_as_many_letters_as_may_be(self):
        self.assertEqual(written((1, (loop((0, 1), text("a")),)), (10 ** 6,)), "a" * 10 ** 6)
        program = (1, (loop((100, 0), loop((100, 0), loop((0, 1), text("a")))),))
        self.assertEqual(written(program, (100,)), "a" * 10 ** 6)
        self.assertEqual(written((1, (text("b"), loop((0, 3), text("abc")))), (111111,)), "b" + "abc" * 333333)
        self.assertEqual(written((0, (text("a" * 10 ** 6),)), ()), "a" * 10 ** 6)

    def check_too_long(self, program, counts, size):
        with self.assertRaises(TooLong) as caught:
            written(program, counts)
        self.assertEqual(caught.exception.length, size)

    def test_too_many_letters(self):
        self.check_too_long((1, (loop((0, 1), text("a")),)), (10 ** 6 + 1,), 10 ** 6 + 1)
        self.check_too_long((1, (loop((0, 3), text("abc")), text("ab"))), (111111,), 10 ** 6 + 1)
        self.check_too_long((1, (loop((1, 10 ** 6), text("ab")),)), (10 ** 18,), 2 * 10 ** 24 + 2)
        self.check_too_long((2, (loop((0, 1, 0), text("a")), loop((0, 0, 1), text("b")))),
                            (10 ** 6, 1), 10 ** 6 + 1)
        self.check_too_long((0, (text("a"), text("b" * 10 ** 6))), (), 10 ** 6 + 1)

    def test_great_counts_that_write_nothing(self):
        great = 10 ** 18
        self.assertEqual(written((1, (text("a"), loop((999, 10 ** 6)), text("b"))), (great,)), "ab")
        self.assertEqual(written((1, (loop((0, 1), text("")), text("b"))), (great,)), "b")
        self.assertEqual(written((1, (loop((999, 10 ** 6), loop((99, 0), text(""), loop((99, 0)))),)), (great,)), "")
        self.assertEqual(written((1, (loop((99, 0), loop((0, 10 ** 6), text("")), loop((99, 0))),)), (great,)), "")
        self.assertEqual(written((0, (loop((10 ** 30,), loop((10 ** 30,), text(""))), text("a"))), ()), "a")

    def test_long_texts_that_go_no_times(self):
        program = (1, (loop((0, 0), loop((0, 1), text("a"))), text("b")))
        self.assertEqual(written(program, (10 ** 18,)), "b")
        program = (2, (loop((0, 1, 0), loop((10 ** 15, 0, 0), text("a"))), loop((0, 0, 1)), text("b")))
        self.assertEqual(written(program, (0, 10 ** 18)), "b")

    def test_deep_loops(self):
        self.assertEqual(written(deep_loops(25), (3,)), "ababab")

    def test_any_programs(self):
        for program in programs(44, 200):
            for counts in small_counts(program[0], 2):
                self.assertEqual(written(program, counts), slow_text(program[1], counts))


if __name__ == "__main__":
    unittest.main()
