"""[12]: moves that lead from the flat row of one program to that of another one."""

import copy
import random
import unittest

from everycount.checker import moved
from everycount.moves import moves
from everycount.rows import flat, plain
from tests.samples import (alike_program, any_pair, any_row, deep_loops, holds_list, loop, moved_on, programs, row_parts,
                           slow_least_parted, slow_move, text)

KINDS = {"left": 2, "right": 2, "out": 2, "in": 2, "join": 2, "root": 3, "whole": 3, "part": 3}


class Moves(unittest.TestCase):
    def check(self, one, other):
        """The moves lead from the flat row of one to that of other, as moved says and as a slow reading of [12] does."""
        told = moves(one, other)
        self.assertIs(type(told), tuple)
        self.assertLessEqual(len(told), 20000)
        self.assertFalse(holds_list(told))
        self.assertEqual(moved(flat(one), told), flat(other))
        row = flat(one)
        for move in told:
            self.assertEqual(len(move), KINDS[move[0]])
            row = slow_move(row, move)
            self.assertIsNotNone(row)
        self.assertEqual(row, flat(other))
        return told

    def check_both(self, one, other):
        self.check(one, other)
        self.check(other, one)

    def test_written_otherwise(self):
        self.check_both((2, (loop((1, 1, 0), text("ba")), loop((0, 0, 1), text("a")))),
                        (2, (loop((0, 1, 0), text("ba")), text("b"), loop((1, 0, 1), text("a")))))
        self.check_both((1, (loop((1, 2), text("aa")),)), (1, (loop((2, 4), text("a")),)))
        self.check_both((1, (loop((2, 4), text("aaa")),)), (1, (loop((3, 6), text("aa")),)))
        self.check_both((1, (loop((0, 1), text("ab")), text("a"))), (1, (text("a"), loop((0, 1), text("ba")))))
        self.check_both((2, (loop((0, 1, 1), text("ab")),)),
                        (2, (loop((0, 0, 1), text("ab")), loop((0, 1, 0), text("ab")))))
        self.check_both((1, (loop((2, 0), loop((0, 1), text("a"))),)), (1, (loop((0, 2), text("a")),)))
        self.check_both((3, (loop((0, 1, 0, 0), text("ab")), loop((2, 0, 1, 1), text("abab")), text("a"))),
                        (3, (text("a"), loop((0, 1, 0, 2), text("ba")), text("ba"), loop((0, 0, 2, 0), text("ba")), text("bababa"))))

    def test_same_row(self):
        for program in [(0, ()), (0, (text("abc"),)), (3, ())] + programs(191, 30):
            self.check(program, program)
            self.check_both(program, row_parts(flat(program)))

    def test_no_counts(self):
        self.check_both((0, (text("abab"),)), (0, (loop((2,), text("ab")),)))
        self.check_both((0, ()), (0, (text(""),)))
        self.assertIsNone(moves((0, (text("a"),)), (0, (text("b"),))))
        self.assertIsNone(moves((0, (text("a"),)), (0, ())))

    def test_no_letters(self):
        for nothing in ((1, ()), (1, (loop((0, 1)), text(""))), (1, (loop((0, 0), loop((0, 1), text("a"))),))):
            self.check_both(nothing, (1, ()))
            self.assertIsNone(moves(nothing, (1, (loop((0, 1), text("a")),))))

    def test_not_alike(self):
        blocks = (1, (loop((0, 1), text("a")), loop((0, 1), text("b"))))
        turns = (1, (loop((0, 1), text("ab")),))
        self.assertIsNone(moves(blocks, turns))
        self.assertIsNone(moves(one=turns, other=blocks))
        self.assertIsNone(moves((1, (loop((0, 1), text("a")),)), (1, (loop((0, 2), text("a")),))))
        self.assertIsNone(moves((1, (loop((0, 1), text("a")),)), (1, (loop((1, 1), text("a")),))))

    def test_by_name(self):
        one, other = (1, (loop((0, 1), text("ab")), text("a"))), (1, (text("a"), loop((0, 1), text("ba"))))
        self.assertEqual(moved(flat(one), moves(other=other, one=one)), flat(other))

    def test_any_pairs(self):
        chance = random.Random(192)
        seen = {True: 0, False: 0}
        for _ in range(600):
            one, other = any_pair(chance)
            parted = slow_least_parted(one, other) is not None
            seen[parted] += 1
            if parted:
                self.assertIsNone(moves(one, other))
                self.assertIsNone(moves(other, one))
            else:
                self.check_both(one, other)
        self.assertGreater(min(seen.values()), 150)

    def test_any_programs(self):
        chance = random.Random(193)
        for program in programs(194, 150):
            self.check_both(program, alike_program(chance, program))
            self.check_both(program, row_parts(plain(program)))

    def test_up_to_twelve_loops(self):
        chance = random.Random(195)
        for _ in range(40):
            row = any_row(chance, chance.randint(1, 3), 12, 4, "aab")
            self.check_both(row_parts(row), row_parts(moved_on(chance, row, 60)))

    def test_many_moves(self):
        """As many letters and loops as may be, with letters that go through all loops."""
        loops = (("a", (0, 1)),) * 12
        self.check_both(row_parts((1, ("a" * 144,) * 2 + ("",) * 11, loops)),
                        row_parts((1, ("",) * 12 + ("a" * 288,), loops)))
        self.check_both(row_parts((1, ("a" * 288,) + ("",) * 12, loops)), row_parts((1, ("a" * 24,) * 12 + ("",), loops)))
        self.check_both(row_parts((1, ("a" * 288,) + ("",) * 12, loops)),
                        row_parts((1, ("",) * 13, (("a", (24, 1)),) * 12)))
        turned = row_parts((1, ("ab" * 12,) + ("",) * 11 + ("ab" * 100,), (("ab", (0, 1)),) * 12))
        self.check_both(turned, row_parts((1, ("a",) + ("",) * 11 + ("ba" * 111 + "b",), (("ba", (0, 1)),) * 12)))
        self.check_both(turned, row_parts((1, ("a",) + ("ba" * 5,) * 11 + ("ba" * 56 + "b",), (("ba", (0, 1)),) * 12)))

    def test_great_constants(self):
        self.check_both((1, (loop((299, 10 ** 6), text("a")),)), (1, (text("a" * 299), loop((0, 10 ** 6), text("a")))))
        self.check_both((1, (loop((20, 1), text("aaaaa")), loop((20, 1), text("aaaaaaaaa")))),
                        (1, (loop((20, 1), text("aaaaaaaaa")), loop((20, 1), text("aaaaa")))))

    def test_deep_loops(self):
        self.check_both(deep_loops(25), (1, (loop((0, 1), text("ab")),)))

    def test_arguments_are_not_changed_and_same_answer_again(self):
        chance = random.Random(196)
        for program in programs(197, 20):
            other = alike_program(chance, program)
            kept = copy.deepcopy((program, other))
            self.assertEqual(moves(program, other), moves(*copy.deepcopy(kept)))
            self.assertEqual((program, other), kept)


if __name__ == "__main__":
    unittest.main()
