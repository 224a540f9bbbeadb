"""[6]: programs made of other programs."""

import copy
import random
import unittest

from everycount.counting import length, letter_at
from everycount.programs import is_program, written
from everycount.rows import flat, plain
from everycount.turning import filled, joined, mirrored, put, repeated
from tests.samples import (any_program, any_word, deep_loops, holds_list, loop, programs, slow_flat, slow_text,
                           small_counts, text)

PROGRAM = (2, (text("ab"), loop((1, 0, 2), text("bca"), loop((3, 0, 0), text("cd"))),
               loop((2, 0, 0), text("a"), loop((4, 5, 0), text("abb")))))


class Case(unittest.TestCase):
    def check(self, program, k, told, most=2):
        """The program is one for k counts, and its text at small counts is what told says of them."""
        self.assertIs(is_program(program), True)
        self.assertEqual(program[0], k)
        self.assertFalse(holds_list(program))
        for counts in small_counts(k, most):
            self.assertEqual(slow_text(program[1], counts), told(counts))
            self.assertEqual(written(program, counts), told(counts))


class Joined(Case):
    def check_joined(self, one, other, most=2):
        self.check(joined(one, other), one[0],
                   lambda counts: slow_text(one[1], counts) + slow_text(other[1], counts), most)

    def test_any_programs(self):
        chance = random.Random(1)
        for one in programs(61, 150):
            other = any_program(chance)
            while other[0] != one[0]:
                other = any_program(chance)
            self.check_joined(one, other, 1)
            self.check_joined(one, one, 1)

    def test_order(self):
        one, other = (1, (text("ab"),)), (1, (loop((0, 1), text("c")),))
        self.assertEqual(written(joined(one, other), (3,)), "abccc")
        self.assertEqual(written(joined(other, one), (3,)), "cccab")
        self.assertEqual(written(joined(other=one, one=other), (3,)), "cccab")

    def test_no_letters(self):
        for nothing in ((2, ()), (2, (text(""),)), (2, (loop((0, 1, 0)),)), (2, (loop((0, 0, 0), text("a")),))):
            self.check_joined(nothing, nothing)
            self.check_joined(PROGRAM, nothing)
            self.check_joined(nothing, PROGRAM)
            self.assertEqual(plain(joined(nothing, PROGRAM)), plain(PROGRAM))
            self.assertEqual(plain(joined(PROGRAM, nothing)), plain(PROGRAM))

    def test_no_counts(self):
        self.check_joined((0, ()), (0, ()))
        self.check_joined((0, (text("ab"),)), (0, (loop((3,), text("c")),)))
        self.assertEqual(flat(joined((0, (text("ab"),)), (0, (loop((3,), text("c")),)))), (0, ("abccc",), ()))

    def test_loops_that_become_one(self):
        one = (2, (loop((0, 1, 0), text("ab")), text("a")))
        other = (2, (loop((0, 0, 1), text("ba")),))
        self.assertEqual(plain(joined(one, other)), (2, ("", "a"), (("ab", (0, 1, 1)),)))

    def test_up_to_twelve_loops(self):
        six = (1, (loop((6, 0), loop((0, 1), text("a")), text("b")),))
        self.assertEqual(flat(joined(six, six)), (1, ("",) + ("b",) * 12, (("a", (0, 1)),) * 12))


class Mirrored(Case):
    def check_mirrored(self, program, most=2):
        self.check(mirrored(program), program[0], lambda counts: slow_text(program[1], counts)[::-1], most)

    def test_any_programs(self):
        for program in programs(62, 200):
            self.check_mirrored(program, 1)
            self.assertEqual(plain(mirrored(mirrored(program))), plain(program))

    def test_texts_parts_and_loops(self):
        self.check_mirrored(PROGRAM)
        self.check_mirrored((1, (text("abc"), loop((0, 1), text("de"), text("fg")))))
        self.assertEqual(written(mirrored((1, (text("abc"), loop((0, 1), text("de"), text("fg"))))), (2,)),
                         "gfedgfedcba")
        self.assertEqual(written(mirrored(program=(0, (text("abc"),))), ()), "cba")

    def test_no_letters(self):
        for program in ((0, ()), (3, ()), (1, (text(""), loop((0, 1)), loop((0, 0), text("ab")), loop((3, 0), text(""))))):
            self.check_mirrored(program)

    def test_deep_loops(self):
        self.assertEqual(written(mirrored(deep_loops(25)), (2,)), "baba")


class Filled(Case):
    def check_filled(self, program, letter, word, most=2):
        self.check(filled(program, letter, word), program[0],
                   lambda counts: slow_text(program[1], counts).replace(letter, word), most)

    def test_any_programs(self):
        chance = random.Random(2)
        for program in programs(63, 200):
            self.check_filled(program, chance.choice("abz"), any_word(chance, 0, 3, "abc"), 1)

    def test_some_words(self):
        for word in ("", "a", "x", "xyz", "ba", "ca", "aa", "abcd"):
            for letter in "abcdz":
                self.check_filled(PROGRAM, letter, word)

    def test_word_that_holds_the_letter(self):
        self.assertEqual(written(filled((0, (text("abab"),)), "a", "aa"), ()), "aabaab")
        self.assertEqual(written(filled((0, (text("abab"),)), "b", "abc"), ()), "aabcaabc")
        self.assertEqual(written(filled((1, (loop((0, 1), text("a")),)), "a", "aba"), (2,)), "abaaba")

    def test_words_that_become_empty(self):
        program = (1, (text("ca"), loop((1, 1), text("aa"), loop((2, 0), text("a"))), loop((0, 1), text("ab")), text("a")))
        self.check_filled(program, "a", "")
        self.assertEqual(flat(filled(program, "a", "")), (1, ("c", ""), (("b", (0, 1)),)))
        self.assertEqual(plain(filled(filled(program, "a", ""), "b", "")), (1, ("c",), ()))
        self.assertEqual(length(filled(filled(filled(program, "a", ""), "b", ""), "c", "")), (0, 0))

    def test_letter_that_is_not_there(self):
        self.assertEqual(plain(filled(PROGRAM, "z", "")), plain(PROGRAM))
        self.assertEqual(plain(filled(program=PROGRAM, letter="z", word="ab")), plain(PROGRAM))
        self.assertEqual(plain(filled(PROGRAM, "a", "a")), plain(PROGRAM))

    def test_no_letters(self):
        for program in ((0, ()), (3, ()), (1, (text(""), loop((0, 1)), loop((0, 0), text("a"))))):
            self.check_filled(program, "a", "abc")

    def test_three_hundred_letters(self):
        program = (1, (text("a"), loop((0, 1), text("b"))))
        self.assertEqual(flat(filled(program, "a", "c" * 299)), (1, ("c" * 299, ""), (("b", (0, 1)),)))
        self.assertEqual(flat(filled(program, "b", "c" * 299)), (1, ("a", ""), (("c" * 299, (0, 1)),)))


class Repeated(Case):
    def check_repeated(self, program, number, most=2):
        self.check(repeated(program, number), program[0],
                   lambda counts: slow_text(program[1], counts) * number, most)

    def test_any_programs(self):
        for program in programs(64, 100):
            for number in range(4):
                self.check_repeated(program, number, 1)

    def test_no_times(self):
        for program in (PROGRAM, (0, ()), (0, (text("a"),)), (3, (text("a"),))):
            self.check_repeated(program, 0, 1)
            self.assertEqual(flat(repeated(program, 0)), (program[0], ("",), ()))
            self.assertEqual(length(repeated(program, 0)), (0,) * (program[0] + 1))

    def test_once(self):
        for program in (PROGRAM, (0, ()), (0, (text("a"),)), (3, (text("a"),))):
            self.check_repeated(program, 1)
            self.assertEqual(flat(repeated(program, 1)), flat(program))

    def test_many_times(self):
        self.assertEqual(flat(repeated((1, (text("ab"),)), 150)), (1, ("ab" * 150,), ()))
        self.assertEqual(flat(repeated((1, ()), 999)), (1, ("",), ()))
        self.assertEqual(flat(repeated((1, (loop((0, 1), text("")),)), 999)), (1, ("",), ()))
        six = (1, (loop((0, 1), text("a")), text("b")))
        self.assertEqual(flat(repeated(number=12, program=six)), (1, ("",) + ("b",) * 12, (("a", (0, 1)),) * 12))

    def test_again_and_again(self):
        program = (1, (loop((0, 1), loop((1, 0), loop((1, 0), text("ab")))),))
        for _ in range(22):
            program = repeated(program, 1)
        self.check(program, 1, lambda counts: "ab" * counts[0])
        self.assertEqual(flat(repeated(program, 2)), (1, ("", "", ""), (("ab", (0, 1)),) * 2))


class Put(Case):
    def check_put(self, program, number, form, most=2):
        def told(counts):
            value = form[0] + sum(factor * count for factor, count in zip(form[1:], counts))
            return slow_text(program[1], counts[:number] + (value,) + counts[number:])
        self.check(put(program, number, form), program[0] - 1, told, most)

    def test_any_programs(self):
        chance = random.Random(3)
        seen = 0
        for program in programs(65, 600):
            k = program[0]
            if k == 0:
                continue
            form = (chance.randint(0, 2),) + tuple(chance.randint(0, 2) for _ in range(k - 1))
            result = put(program, chance.randrange(k), form)
            row = slow_flat(result)
            if len(row[2]) <= 12 and sum(map(len, row[1])) <= 300:
                seen += 1
                for number in range(k):
                    self.check_put(program, number, form, 1)
        self.assertGreater(seen, 200)

    def test_counts_keep_their_order(self):
        program = (3, (loop((0, 1, 0, 0), text("a")), loop((0, 0, 1, 0), text("b")), loop((0, 0, 0, 1), text("c"))))
        self.assertEqual(written(put(program, 0, (1, 2, 3)), (10, 100)), "a" * 321 + "b" * 10 + "c" * 100)
        self.assertEqual(written(put(program, 1, (1, 2, 3)), (10, 100)), "a" * 10 + "b" * 321 + "c" * 100)
        self.assertEqual(written(put(form=(1, 2, 3), number=2, program=program), (10, 100)),
                         "a" * 10 + "b" * 100 + "c" * 321)

    def test_constant_zero(self):
        for form in ((0, 0), (0, 1), (0, 3)):
            for number in range(2):
                self.check_put(PROGRAM, number, form)
        self.assertEqual(flat(put((1, (text("a"), loop((0, 5), text("b")), text("c"))), 0, (0,))), (0, ("ac",), ()))
        self.assertEqual(flat(put((1, (text("a"), loop((2, 5), text("b")), text("c"))), 0, (0,))), (0, ("abbc",), ()))
        self.assertEqual(flat(put((2, (loop((0, 1, 0), text("a")), loop((0, 0, 1), text("b")))), 0, (0, 0))),
                         (1, ("", ""), (("b", (0, 1)),)))

    def test_last_count(self):
        for constant in range(4):
            self.check_put((1, (text("a"), loop((1, 2), text("bc")), loop((3, 0), text("d")))), 0, (constant,))
        self.assertEqual(flat(put((1, (text("a"), loop((1, 2), text("bc")))), 0, (3,))), (0, ("a" + "bc" * 7,), ()))

    def test_open_loops_may_become_fixed_in_fixed_ones(self):
        self.check_put((2, (loop((2, 0, 0), text("c"), loop((0, 1, 0), loop((2, 0, 0), text("a"))),
                                 loop((0, 0, 1), text("b"))),)), 0, (2, 0))

    def test_forms_within_fixed_loops(self):
        self.check_put((2, (loop((2, 0, 0), loop((1, 0, 0), text("a"), loop((0, 1, 1), text("b")))),)), 1, (1, 2))

    def test_great_numbers(self):
        program = (2, (loop((1, 10 ** 6, 10 ** 6), text("a")), text("b")))
        self.assertEqual(length(put(program, 0, (0, 999))), (2, 10 ** 9))
        self.assertEqual(length(put(program, 1, (999, 999))), (999 * 10 ** 6 + 2, 10 ** 9))
        self.assertEqual(letter_at(put(program, 0, (0, 999)), (10 ** 18,), 10 ** 27), "a")
        self.assertEqual(letter_at(put(program, 0, (0, 999)), (10 ** 18,), 10 ** 27 + 1), "b")
        nothing = (1, (loop((0, 10 ** 6), loop((99, 0), text(""))), loop((999, 10 ** 6)), text("b")))
        self.assertEqual(flat(put(nothing, 0, (999,))), (0, ("b",), ()))


class Arguments(unittest.TestCase):
    def test_not_changed_and_same_answer_again(self):
        kept = copy.deepcopy(PROGRAM)
        for ask in (lambda: joined(PROGRAM, PROGRAM), lambda: mirrored(PROGRAM), lambda: filled(PROGRAM, "a", "xy"),
                    lambda: repeated(PROGRAM, 2), lambda: put(PROGRAM, 1, (1, 2))):
            self.assertEqual(ask(), ask())
            self.assertEqual(PROGRAM, kept)

    def test_deep_loops(self):
        deep = deep_loops(25)
        self.assertEqual(written(joined(deep, deep), (2,)), "abababab")
        self.assertEqual(written(filled(deep, "a", ""), (3,)), "bbb")
        self.assertEqual(written(repeated(deep, 2), (1,)), "abab")
        self.assertEqual(written(put(deep, 0, (2,)), ()), "abab")

    def test_one_behind_another(self):
        """What one function makes may be passed on to the next one."""
        program = (2, (text("a"), loop((1, 2, 0), text("ab"))))
        program = filled(joined(mirrored(program), (2, (loop((0, 0, 1), text("b")),))), "b", "ca")
        program = repeated(put(program, 0, (1, 3)), 2)
        self.assertEqual(written(program, (0,)), ("caa" * 3 + "a") * 2)
        self.assertEqual(written(program, (1,)), ("caa" * 9 + "a" + "ca") * 2)


if __name__ == "__main__":
    unittest.main()
