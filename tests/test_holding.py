"""[14]: which words stand in the texts of a program, at some counts, at all counts, and how often."""

import copy
import random
import unittest

from everycount.holding import held_at, may_hold, must_hold, often
from everycount.programs import value_of
from everycount.rows import row_program
from everycount.turning import joined, repeated
from tests.samples import (alike_program, any_part_of, any_program, any_row, any_word, deep_loops, loop, row_parts, slow_count,
                           slow_held, slow_text, small_counts, text)

A = loop((0, 1), text("a"))
B = loop((0, 1), text("b"))
AB = loop((0, 1), text("ab"))
C = loop((0, 1), text("c"))


class Holding(unittest.TestCase):
    def check(self, program, word, may, must, many=None):
        """What is told of the word, and the same from the texts themselves."""
        k = program[0]
        held = slow_held(program, word)
        self.assertEqual((may, must), (any(held.values()), all(held.values())))
        self.assertIs(may_hold(program, word), may)
        self.assertIs(must_hold(program, word), must)
        counts = held_at(program, word)
        if may:
            self.assertIs(type(counts), tuple)
            self.assertTrue(all(type(count) is int and 0 <= count <= len(word) for count in counts), counts)
            self.assertIs(held[counts], True)
        else:
            self.assertIsNone(counts)
        answer = often(program, word)
        self.assertIs(type(answer), tuple)
        self.assertTrue(all(type(number) is int for number in answer))
        self.assertEqual(len(answer), k + 1)
        self.assertGreaterEqual(min(answer[1:], default=0), 0)
        if many is not None:
            self.assertEqual(answer, many)
        for each in small_counts(k, len(word) + 1):
            if min(each, default=len(word)) >= len(word):
                self.assertEqual(value_of(answer, each), slow_count(slow_text(program[1], each), word))

    def test_no_counts(self):
        self.check((0, (text("abab"),)), "ab", True, True, (2,))
        self.check((0, (text("abab"),)), "aba", True, True, (1,))
        self.check((0, (text("abab"),)), "aa", False, False, (0,))
        self.check((0, (loop((3,), text("ab")),)), "bab", True, True, (2,))
        self.check((0, ()), "a", False, False, (0,))
        self.check((0, (text("a"),)), "aaaaaaaaaaaa", False, False, (0,))
        self.check((0, (text("a" * 12),)), "a" * 12, True, True, (1,))
        self.assertEqual(held_at((0, (text("a"),)), "a"), ())

    def test_words_of_one_letter(self):
        self.check((1, (A, text("b"))), "a", True, False, (0, 1))
        self.check((1, (A, text("b"))), "b", True, True, (1, 0))
        self.check((1, (A, text("b"))), "c", False, False, (0, 0))
        self.check((2, (loop((0, 1, 2), text("aba")), text("b"))), "a", True, False, (0, 2, 4))
        self.check((2, (loop((1, 1, 2), text("aba")), text("b"))), "a", True, True, (2, 2, 4))
        self.assertEqual(held_at((1, (A, text("b"))), "a"), (1,))

    def test_words_of_twelve_letters(self):
        self.check((1, (A,)), "a" * 12, True, False, (-11, 1))
        self.check((1, (AB,)), "ab" * 6, True, False, (-5, 1))
        self.check((1, (AB,)), "ba" * 6, True, False, (-6, 1))
        self.check((1, (A, B)), "a" * 6 + "b" * 6, True, False, (1, 0))
        self.check((1, (loop((0, 1), text("abcdefghijkl")),)), "labcdefghijk", True, False, (-1, 1))
        self.check((1, (loop((12, 1), text("a")),)), "a" * 12, True, True, (1, 1))
        self.check((1, (loop((11, 1), text("a")),)), "a" * 12, True, False, (0, 1))
        self.check((1, (A, text("b"), A)), "a" * 5 + "b" + "a" * 6, True, False, (1, 0))
        self.check((1, (A, text("b"), A, text("b"), A)), "ba" + "a" * 9 + "b", True, False, (0, 0))

    def test_words_that_overlap_themselves(self):
        self.check((1, (A,)), "aa", True, False, (-1, 1))
        self.check((1, (A,)), "aaa", True, False, (-2, 1))
        self.check((1, (AB, text("a"))), "aba", True, False, (0, 1))
        self.check((1, (AB, text("a"))), "abab", True, False, (-1, 1))
        self.check((1, (AB, text("a"))), "babab", True, False, (-2, 1))
        self.check((2, (loop((0, 1, 0), text("aab")), loop((0, 0, 1), text("a")))), "aa", True, False, (-1, 1, 1))

    def test_words_over_borders(self):
        self.check((1, (text("ca"), AB, text("d"))), "caa", True, False, (1, 0))
        self.check((1, (text("ca"), AB, text("d"))), "cad", True, False, (0, 0))
        self.check((1, (text("ca"), AB, text("d"))), "ababd", True, False, (1, 0))
        self.check((1, (text("ca"), AB, text("d"))), "cabd", False, False, (0, 0))
        self.check((1, (text("ca"), AB, text("d"))), "caababd", True, False, (0, 0))
        self.check((1, (text("ca"), AB, text("d"))), "ca", True, True, (1, 0))
        self.check((2, (loop((0, 1, 0), text("a")), loop((0, 0, 1), text("b")))), "ab", True, False, (1, 0, 0))
        self.check((2, (loop((0, 1, 0), text("a")), loop((0, 0, 1), text("b")))), "aabbb", True, False, (1, 0, 0))
        self.check((2, (loop((1, 1, 0), text("a")), loop((1, 0, 1), text("b")))), "ab", True, True, (1, 0, 0))

    def test_words_over_several_turns(self):
        self.check((1, (loop((0, 1), text("abb")),)), "bbabbabbab", True, False, (-3, 1))
        self.check((1, (loop((0, 2), text("ab")), text("c"))), "ababab", True, False, (-2, 2))
        self.check((1, (text("c"), loop((0, 2), text("ab")), text("c"))), "cababc", True, False, (0, 0))
        self.check((1, (text("c"), loop((0, 2), text("ab")), text("c"))), "cabc", False, False, (0, 0))
        self.check((1, (text("c"), loop((1, 2), text("ab")), text("c"))), "cabababc", True, False, (0, 0))

    def test_loops_that_go_no_times(self):
        middle = (2, (text("ab"), loop((0, 1, 0), text("c")), loop((0, 0, 1), text("d")), text("ba")))
        self.check(middle, "abba", True, False, (0, 0, 0))
        self.assertEqual(held_at(middle, "abba"), (0, 0))
        self.check(middle, "abcba", True, False, (0, 0, 0))
        self.assertEqual(held_at(middle, "abcba"), (1, 0))
        self.check(middle, "bddb", True, False, (0, 0, 0))
        self.assertEqual(held_at(middle, "bddb"), (0, 2))
        self.check(middle, "cd", True, False, (1, 0, 0))
        self.check(middle, "dc", False, False, (0, 0, 0))
        self.check(middle, "bcddb", True, False, (0, 0, 0))
        self.assertEqual(held_at(middle, "bcddb"), (1, 2))
        self.check((1, (A, text("b"), loop((0, 1), text("c")), text("b"), C, text("a"))), "bba", True, False, (0, 0))

    def test_words_at_all_counts_by_several_ways(self):
        """At each count the word stands somewhere, but at no place for all counts."""
        self.check((1, (text("a"), B, text("a"), text("c"), A, text("b"), text("ab"))), "ab", True, True, (3, 0))
        self.check((1, (text("a"), C, text("b"), loop((0, 1), text("ab")))), "ab", True, True, (0, 1))
        self.check((2, (text("a"), loop((0, 1, 0), text("c")), text("b"), loop((0, 1, 0), text("dab")))), "ab", True, True,
                   (0, 1, 0))
        self.check((2, (text("a"), loop((0, 1, 0), text("c")), text("b"), loop((0, 0, 1), text("dab")))), "ab", True, False,
                   (0, 0, 1))
        self.check((2, (text("a"), loop((0, 1, 1), text("c")), text("b"), loop((0, 2, 1), text("dab")))), "ab", True, True,
                   (0, 2, 1))

    def test_words_just_at_great_counts(self):
        for size in range(1, 13):
            self.check((1, (text("b"), loop((0, 1), text("a")), text("b"))), ("a" * size), True, False, (1 - size, 1))
            self.check((1, (text("b"), loop((0, 1), text("a")), text("c"))), ("a" * (size - 1) + "c"), True, size == 1, (1, 0))
        self.assertEqual(held_at((1, (A,)), "a" * 12), (12,))
        self.assertEqual(held_at((1, (text("b"), A, text("b"))), "b" + "a" * 10 + "b"), (10,))
        self.assertEqual(held_at((2, (text("b"), loop((0, 2, 3), text("a")), text("b"))), "b" + "a" * 5 + "b"), (1, 1))

    def test_great_factors_and_constants(self):
        program = (2, (loop((999, 10 ** 6, 999999), text("ab")), text("a")))
        self.assertEqual(often(program, "ab"), (999, 10 ** 6, 999999))
        self.assertEqual(often(program, "aba"), (999, 10 ** 6, 999999))
        self.assertEqual(often(program, "babab"), (997, 10 ** 6, 999999))
        self.assertEqual(often((1, (loop((0, 10 ** 6), text("a")),)), "a" * 12), (-11, 10 ** 6))
        self.assertIs(must_hold(program, "abababababab"), True)
        self.assertIs(may_hold((1, (loop((0, 10 ** 6), text("a")),)), "a" * 12), True)
        self.assertIs(must_hold((1, (loop((0, 10 ** 6), text("a")),)), "a"), False)
        self.assertIs(may_hold((1, (text("b"), loop((0, 10 ** 6), text("a")), text("b"))), "baab"), False)

    def test_constants_below_0(self):
        for size in range(2, 13):
            self.check((1, (A,)), "a" * size, True, False, (1 - size, 1))
            for factor in (1, 2, 3):
                self.check((1, (loop((0, factor), text("a")),)), "a" * size, True, False, (1 - size, factor))
        self.check((2, (loop((0, 1, 0), text("a")), text("b"), loop((0, 0, 1), text("a")))), "aaa", True, False, (-4, 1, 1))

    def test_counts_that_no_loop_takes(self):
        self.check((2, (loop((0, 0, 1), text("a")),)), "aa", True, False, (-1, 0, 1))
        self.check((3, (text("ab"),)), "ab", True, True, (1, 0, 0, 0))
        self.check((2, ()), "ab", False, False, (0, 0, 0))

    def test_any_programs(self):
        chance = random.Random(401)
        seen = {}
        for turn in range(900):
            if turn % 3:
                k = chance.randint(1, 2)
                program = row_parts(any_row(chance, k, chance.randint(1, 3), 2, "aab"))
            else:
                program = any_program(chance, 2)
            size = chance.randint(1, 4) if program[0] == 2 else chance.randint(1, 12)
            greatest = slow_text(program[1], (size,) * program[0])
            for word in (any_part_of(chance, greatest, size), any_word(chance, size, size)):
                held = slow_held(program, word)
                found = (any(held.values()), all(held.values()))
                seen[found] = seen.get(found, 0) + 1
                self.check(program, word, *found)
        self.assertGreater(min(seen.values()), 200)
        self.assertEqual(len(seen), 3)

    def test_three_counts(self):
        chance = random.Random(402)
        for _ in range(40):
            program = row_parts(any_row(chance, 3, chance.randint(1, 4), 2))
            size = chance.randint(1, 4)
            word = any_part_of(chance, slow_text(program[1], (1, 2, 1)), size)
            held = slow_held(program, word)
            self.check(program, word, any(held.values()), all(held.values()))

    def test_programs_written_otherwise(self):
        chance = random.Random(403)
        for _ in range(100):
            program = any_program(chance, 2)
            other = alike_program(chance, program, 15)
            word = any_word(chance, 1, 4)
            for function in (may_hold, must_hold, often):
                self.assertEqual(function(program, word), function(other, word))

    def test_twelve_loops_and_deep_ones(self):
        """All counts up to 12 are looked at where loops go that often."""
        parts = []
        for number in range(12):
            form = (0,) + tuple(int(number % 3 == other) for other in range(3))
            parts += [loop(form, text("ab"[number % 2])), text("ab"[number // 2 % 2])]
        program = (3, tuple(parts))
        for word in ("a" * 12, "ab" * 6, "b" * 12, "aabbaabbaabb", "c"):
            counts = held_at(program, word)
            self.assertEqual(may_hold(program, word), counts is not None)
            if counts is not None:
                self.assertIn(word, slow_text(program[1], counts))
            self.assertIs(must_hold(program, word), False)
            for counts in ((12, 12, 12), (12, 15, 13)):
                self.assertEqual(value_of(often(program, word), counts), slow_count(slow_text(program[1], counts), word))
        self.assertEqual(often(deep_loops(25), "ab"), (0, 1))
        self.assertEqual(often(repeated(joined(program, program), 0), "ab"), (0, 0, 0, 0))

    def test_by_name_and_nothing_changes(self):
        program = (1, (AB, text("a")))
        kept = copy.deepcopy(program)
        for function in (may_hold, must_hold, held_at, often):
            self.assertEqual(function(word="aba", program=program), function(program, "aba"))
        self.assertEqual(program, kept)
        self.assertEqual(often(row_program((1, ("", "a"), (("ab", (0, 1)),))), "aba"), (0, 1))


if __name__ == "__main__":
    unittest.main()
