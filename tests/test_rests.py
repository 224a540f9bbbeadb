"""[13]: what is left of one text behind another, and the greatest number of times that a program's text stands in a row."""

import copy
import itertools
import random
import unittest

from everycount.programs import is_program
from everycount.rests import power, rest
from everycount.rows import flat, is_plain, plain, row_program
from everycount.turning import joined, repeated
from tests.samples import (alike_program, any_pair, any_program, any_row, deep_loops, holds_list, loop, programs, row_parts,
                           row_text, slow_is_plain, slow_text, small_counts, text)

A = loop((0, 1), text("a"))
B = loop((0, 1), text("b"))
AB = loop((0, 1), text("ab"))
NOTHING = (1, ("",), ())


def small_rows():
    """All plain rows with one count, up to two loops and words of up to two letters, by their texts at some counts."""
    words = ["".join(letters) for size in range(3) for letters in itertools.product("ab", repeat=size)]
    pairs = [(word, (0, factor)) for word in words[1:] for factor in (1, 2)]
    found = {}
    for many in range(3):
        for texts in itertools.product(words, repeat=many + 1):
            for loops in itertools.product(pairs, repeat=many):
                row = (1, texts, loops)
                if slow_is_plain(row):
                    found[tuple(row_text(row, (count,)) for count in range(6))] = row
    return found


class Rest(unittest.TestCase):
    def check(self, one, other, expected):
        row = rest(one, other)
        self.assertEqual(row, expected)
        self.assertFalse(holds_list(row))
        if expected is not None:
            self.assertTrue(is_plain(row))
            self.assertEqual(plain(joined(other, row_program(row))), plain(one))

    def test_examples_of_the_document(self):
        self.check((2, (loop((0, 1, 1), text("a")),)), (2, (loop((0, 1, 0), text("a")),)), (2, ("", ""), (("a", (0, 0, 1)),)))
        self.check((1, (A, B, text("a"))), (1, (text("a"),)), None)

    def test_no_counts(self):
        self.check((0, (text("abc"),)), (0, (text("ab"),)), (0, ("c",), ()))
        self.check((0, (loop((3,), text("ab")),)), (0, (loop((2,), text("ab")), text("a"))), (0, ("b",), ()))
        self.check((0, (text("abc"),)), (0, ()), (0, ("abc",), ()))
        self.check((0, (text("abc"),)), (0, (text("abc"),)), (0, ("",), ()))
        self.check((0, (text("abc"),)), (0, (text("abcd"),)), None)
        self.check((0, (text("abc"),)), (0, (text("b"),)), None)
        self.check((0, ()), (0, (text("a"),)), None)

    def test_empty_rest(self):
        self.check((1, (AB, text("a"))), (1, (text("a"), loop((0, 1), text("ba")))), NOTHING)
        self.check((1, (A,)), (1, (A,)), NOTHING)
        self.check((1, ()), (1, (text(""), loop((0, 1)))), NOTHING)
        for program in programs(301, 100):
            self.check(program, program, (program[0], ("",), ()))
            self.check(program, (program[0], ()), plain(program))

    def test_texts_that_part(self):
        self.check((1, (A, text("b"))), (1, (A, text("c"))), None)
        self.check((1, (A, text("b"))), (1, (B,)), None)
        self.check((1, (A, B)), (1, (loop((0, 2), text("a")),)), None)
        self.check((1, (A, B)), (1, (text("b"),)), None)
        self.check((1, (text("b"), A)), (1, (text("c"), A)), None)
        self.check((1, (loop((0, 2), text("ab")),)), (1, (loop((0, 1), text("ba")),)), None)
        self.check((2, (loop((0, 1, 0), text("a")), text("b"))), (2, (loop((0, 0, 1), text("a")), text("b"))), None)

    def test_other_is_longer_at_some_counts(self):
        self.check((1, (A,)), (1, (text("a"),)), None)
        self.check((1, (A,)), (1, (loop((1, 1), text("a")),)), None)
        self.check((1, (A,)), (1, (loop((0, 2), text("a")),)), None)
        self.check((1, (text("ab"), A)), (1, (A,)), None)
        self.check((1, (text("aaa"),)), (1, (A,)), None)
        self.check((2, (loop((0, 1, 1), text("a")),)), (2, (loop((0, 2, 0), text("a")),)), None)
        self.check((2, (loop((0, 2, 1), text("a")),)), (2, (loop((0, 1, 2), text("a")),)), None)
        self.check((1, (A, text("b"))), (1, (A, text("b"), A)), None)

    def test_no_text_of_a_program_is_left(self):
        """At all counts the text of one begins with that of other, and yet no program writes what is left."""
        n, m = (0, 1, 0), (0, 0, 1)
        for one, other in (((1, (A, B, text("a"))), (1, (text("a"),))),
                           ((1, (text("b"), A, B, text("a"))), (1, (text("ba"),))),
                           ((1, (A, B, text("ab"))), (1, (text("a"),))),
                           ((1, (A, text("b"), A, B, text("a"))), (1, (A, text("ba")))),
                           ((1, (loop((0, 2), text("a")), B, text("a"))), (1, (A, text("a")))),
                           ((1, (AB, loop((0, 1), text("b")), text("a"))), (1, (text(""), text("a")))),
                           ((2, (loop(n, text("a")), loop(m, text("b")), loop(n, text("a")), text("a"))), (2, ())),
                           ((1, (A, loop((0, 1), text("ab")), text("aa"))), (1, (text("aa"),))),
                           ((2, (loop(n, text("a")), loop(n, text("b")), text("a"))), (2, (text("a"),)))):
            for counts in small_counts(one[0], 4):
                self.assertTrue(slow_text(one[1], counts).startswith(slow_text(other[1], counts)))
            self.check(one, other, None if other[1] else plain(one))

    def test_words_that_go_through_loops(self):
        self.check((1, (A, text("ab"))), (1, (text("a"),)), (1, ("", "b"), (("a", (0, 1)),)))
        self.check((1, (AB, text("abc"))), (1, (text("a"),)), (1, ("", "bc"), (("ba", (0, 1)),)))
        self.check((1, (AB, text("abc"))), (1, (text("ab"),)), (1, ("", "c"), (("ab", (0, 1)),)))
        self.check((1, (AB, text("abab"))), (1, (text("aba"),)), (1, ("", "b"), (("ba", (0, 1)),)))
        self.check((1, (AB, text("aba"))), (1, (text("abab"),)), None)
        self.check((1, (AB, text("a"), B, text("b"))), (1, (text("ab"),)), (1, ("", "", ""), (("ab", (0, 1)), ("b", (0, 1)))))
        self.check((1, (AB, text("a"), B, text("a"))), (1, (text("ab"),)), None)
        self.check((2, (loop((0, 1, 0), text("a")), loop((0, 0, 1), text("aa")), text("aa"))), (2, (text("aa"),)),
                   (2, ("", ""), (("a", (0, 1, 2)),)))

    def test_loop_of_which_a_part_is_left(self):
        self.check((1, (loop((0, 3), text("ab")), text("a"))), (1, (AB,)), (1, ("", "a"), (("ab", (0, 2)),)))
        self.check((1, (loop((1, 3), text("ab")), text("a"))), (1, (AB, text("a"))), (1, ("", "ba"), (("ba", (0, 2)),)))
        self.check((1, (loop((2, 3), text("ab")), text("c"))), (1, (loop((1, 1), text("ab")), text("a"))),
                   (1, ("", "bc"), (("ba", (0, 2)),)))
        self.check((2, (text("c"), loop((2, 3, 1), text("ab")), text("d"))), (2, (text("c"), loop((2, 3, 0), text("ab")))),
                   (2, ("", "d"), (("ab", (0, 0, 1)),)))
        self.check((1, (loop((0, 3), text("ab")), text("a"))), (1, (AB, text("a"))), (1, ("", ""), (("ba", (0, 2)),)))
        self.check((1, (loop((0, 3), text("ab")), text("a"))), (1, (AB, text("ab"))), None)
        self.check((1, (loop((0, 3), text("ab")), text("ac"))), (1, (AB, text("a"))), (1, ("", "c"), (("ba", (0, 2)),)))

    def test_joined_programs(self):
        """Behind its first part, the rest of a joined program is the plain row of the second."""
        chance = random.Random(302)
        for _ in range(600):
            one, other = any_pair(chance)
            self.check(joined(one, other), one, plain(other))
            self.check(alike_program(chance, joined(one, other), 10), alike_program(chance, one, 5), plain(other))
        for program in programs(303, 150):
            again = any_program(random.Random(304), 0)
            other = (program[0], again[1]) if program[0] == 0 else (program[0], program[1][::-1])
            self.check(joined(program, other), program, plain(other))

    def test_any_pairs(self):
        """What is left at small counts is the text of the row; where there is a small row that fits, it is told."""
        chance = random.Random(305)
        small = small_rows()
        seen = {"row": 0, "none": 0, "begins": 0}
        for _ in range(4000):
            one, other = any_pair(chance, 1, 2)
            if one[0] == 0:
                one, other = (1, one[1]), (1, other[1])
                one = (1, one[1] + (A,)) if chance.random() < 0.5 else one
            row = rest(one, other)
            pairs = [(slow_text(one[1], (count,)), slow_text(other[1], (count,))) for count in range(6)]
            if not all(first.startswith(second) for first, second in pairs):
                self.assertIsNone(row)
                seen["none"] += 1
                continue
            left = tuple(first[len(second):] for first, second in pairs)
            seen["row" if row else "begins"] += 1
            if left in small:
                self.assertEqual(row, small[left])
            if row is not None:
                self.assertEqual(tuple(row_text(row, (count,)) for count in range(6)), left)
                self.assertTrue(slow_is_plain(row))
        self.assertGreater(seen["row"], 300)
        self.assertGreater(seen["none"], 300)

    def test_all_small_rows_behind_words(self):
        """Each small row with each short word ahead of it: the row is left, or nothing fits."""
        small = small_rows()
        for told, row in list(small.items())[::7]:
            for word in ("a", "b", "ab", "ba", "aab"):
                left = tuple(each[len(word):] if each.startswith(word) else None for each in told)
                found = rest(row_program(row), (1, (text(word),)))
                if None in left:
                    self.assertIsNone(found)
                elif left in small:
                    self.assertEqual(found, small[left])
                elif found is not None:
                    self.assertEqual(tuple(row_text(found, (count,)) for count in range(6)), left)
                self.assertEqual(rest((1, (text(word),) + row_program(row)[1]), (1, (text(word),))), row)

    def test_by_name_and_nothing_changes(self):
        one, other = (1, (A, text("ab"))), (1, (text("a"),))
        kept = copy.deepcopy((one, other))
        self.assertEqual(rest(other=other, one=one), rest(one, other))
        self.assertEqual((one, other), kept)

    def test_up_to_twelve_loops_and_deep_ones(self):
        chance = random.Random(306)
        for _ in range(100):
            row = any_row(chance, 3, 12)
            program = row_parts(row)
            self.assertEqual(rest(program, program), (3, ("",), ()))
            begun = row_parts((3, row[1][:7], row[2][:6]))
            self.assertEqual(rest(program, begun), plain(row_parts((3, ("",) + row[1][7:], row[2][6:]))))
        self.assertEqual(rest(deep_loops(25), deep_loops(25)), NOTHING)


class Power(unittest.TestCase):
    def check(self, program, row, number):
        answer = power(program)
        self.assertEqual(answer, (row, number))
        self.assertFalse(holds_list(answer))
        self.assertTrue(is_program(row_program(row)))
        self.assertEqual(plain(repeated(row_program(row), number)), plain(program))

    def test_example_of_the_document(self):
        self.check((1, (AB, AB, text("abab"))), (1, ("", "ab"), (("ab", (0, 1)),)), 2)

    def test_empty_text(self):
        for program in ((0, ()), (1, ()), (2, (text(""), loop((0, 1, 1)), loop((7, 0, 0), text("")))),
                        (1, (loop((0, 0), text("a"), A),))):
            self.check(program, plain(program), 1)
            self.assertEqual(plain(program), (program[0], ("",), ()))

    def test_nothing_repeats(self):
        for program in ((1, (A, B)), (1, (A, text("b"))), (1, (text("b"), A)), (0, (text("aab"),)), (1, (AB, text("a"))),
                        (1, (A, text("ab"), A)), (1, (text("a"), AB)), (2, (loop((1, 2, 2), text("ab")),)),
                        (2, (loop((0, 2, 3), text("ab")),)), (1, (loop((3, 2), text("ab")),))):
            self.check(program, plain(program), 1)

    def test_words(self):
        self.check((0, (text("abab"),)), (0, ("ab",), ()), 2)
        self.check((0, (text("a" * 12),)), (0, ("a",), ()), 12)
        self.check((2, (text("aab" * 100),)), (2, ("aab",), ()), 100)
        self.check((1, (loop((12, 0), loop((2, 0), text("ab")), text("c")),)), (1, ("ababc",), ()), 12)

    def test_one_loop(self):
        self.check((1, (loop((0, 6), text("ab")),)), (1, ("", ""), (("ab", (0, 1)),)), 6)
        self.check((1, (loop((0, 2), text("aaa")),)), (1, ("", ""), (("a", (0, 1)),)), 6)
        self.check((2, (loop((4, 8, 6), text("ab")),)), (2, ("", "abab"), (("ab", (0, 4, 3)),)), 2)
        self.check((2, (loop((0, 0, 6), text("ab")), text("ab"))), (2, ("", "ab"), (("ab", (0, 0, 6)),)), 1)
        self.check((2, (loop((0, 0, 6), text("ab")), text("ababa"))), (2, ("", "ababa"), (("ab", (0, 0, 6)),)), 1)
        self.check((2, (text("ba"), loop((2, 4, 8), text("ba")), text("ba"))), (2, ("", "ba"), (("ba", (0, 1, 2)),)), 4)
        self.assertEqual(power((1, (loop((0, 10 ** 6), text("ab")),))), ((1, ("", ""), (("ab", (0, 1)),)), 10 ** 6))

    def test_programs_that_show_no_power(self):
        both = (2, (loop((0, 1, 0), text("a")), text("b"), loop((0, 0, 1), text("a"))))
        self.check((1, (text("a"), loop((0, 1), text("ba")), text("ba"), loop((0, 1), text("ba")), text("b"))),
                   (1, ("", "ab"), (("ab", (0, 1)),)), 2)
        self.check((1, (A, text("b"), loop((0, 2), text("a")), text("b"), A)),
                   (1, ("", "b", ""), (("a", (0, 1)), ("a", (0, 1)))), 2)
        self.check((2, (loop((0, 1, 0), text("a")), text("b"), loop((0, 1, 1), text("a")), text("b"),
                        loop((0, 1, 1), text("a")), text("b"), loop((0, 0, 1), text("a")))), plain(both), 3)
        self.check((1, (loop((1, 1), text("ab")), text("c"), text("ab"), AB, text("c"))),
                   (1, ("", "abc"), (("ab", (0, 1)),)), 2)

    def test_programs_that_show_a_power_and_have_none(self):
        for program in ((1, (A, text("b"), A, text("b"), loop((0, 2), text("a")), text("b"))),
                        (1, (text("b"), loop((0, 1), text("ab")), text("a"), AB, text("ab"))),
                        (1, (A, text("b"), loop((0, 2), text("a")))),
                        (1, (A, text("b"), loop((0, 2), text("a")), text("c"), A)),
                        (2, (loop((0, 1, 0), text("a")), text("b"), loop((0, 0, 1), text("a")), text("b"))),
                        (1, (loop((0, 1), text("ab")), loop((0, 2), text("ba"))))):
            self.check(program, plain(program), 1)

    def test_first_loop_goes_into_the_text_ahead(self):
        """(ba)**n c b ahead of (ba)**n becomes (ba)**n c (ba)**n b."""
        base = (1, (loop((0, 1), text("ab")), text("ca")))
        for number in range(2, 6):
            self.check(repeated(base, number), plain(base), number)
            self.assertEqual(len(plain(repeated(base, number))[2]), number)

    def test_any_powers(self):
        """The power of a power; what comes is the same for each way to write it."""
        chance = random.Random(311)
        greatest = 0
        for _ in range(1500):
            k = chance.randint(0, 2)
            base = row_parts(any_row(chance, k, chance.randint(0, 3) if k else 0, 2, "aab"))
            number = chance.randint(1, 5)
            program = repeated(base, number)
            if len(flat(program)[2]) > 12:
                continue
            row, times = power(base)
            if plain(base) == (k, ("",), ()):
                self.check(program, row, 1)
                continue
            self.check(program, row, times * number)
            self.check(alike_program(chance, program, 10), row, times * number)
            self.check(row_program(row), row, 1)
            greatest = max(greatest, len(row[2]) * number)
        self.assertGreater(greatest, 8)

    def test_any_programs(self):
        """No greater number fits: the texts at small counts do not repeat so often, or no small row fits them."""
        small = small_rows()
        for program in [row_parts(row) for row in list(small.values())[::5]] + programs(312, 200, 1):
            row, number = power(program)
            self.check(program, row, number)
            k = program[0]
            told = [slow_text(program[1], counts) for counts in small_counts(k, 5)]
            for times in range(number + 1, 13):
                pieces = [each[:len(each) // times] for each in told]
                if any(told) and [piece * times for piece in pieces] == told and k == 1:
                    self.assertNotIn(tuple(pieces), small)

    def test_by_name_and_nothing_changes(self):
        program = (1, (AB, AB))
        kept = copy.deepcopy(program)
        self.assertEqual(power(program=program), power(program))
        self.assertEqual(program, kept)
        self.assertEqual(power(deep_loops(25)), ((1, ("", ""), (("ab", (0, 1)),)), 1))

    def test_up_to_twelve_loops(self):
        base = (3, (loop((0, 1, 0, 0), text("a")), loop((0, 0, 1, 0), text("b"))))
        for number in range(1, 7):
            self.check(repeated(base, number), plain(base), number)
        merged = (3, (loop((0, 1, 0, 0), text("a")), text("b"), loop((0, 0, 1, 0), text("a"))))
        for number in range(1, 12):
            self.check(repeated(merged, number), plain(merged), number)


if __name__ == "__main__":
    unittest.main()
