"""[5]: lengths, letters, and the counts that write a text."""

import unittest

from everycount.counting import counts_of, length, letter_at, letters
from everycount.errors import Unused
from everycount.programs import value_of, written
from tests.samples import deep_loops, holds_list, loop, programs, slow_text, small_counts, text

PROGRAM = (2, (text("ab"), loop((1, 0, 2), text("bca"), loop((3, 0, 0), text("cd"))),
               loop((2, 0, 0), text("a"), loop((4, 5, 0), text("abb")))))


class Forms(unittest.TestCase):
    def test_length(self):
        self.assertEqual(length((0, ())), (0,))
        self.assertEqual(length((3, ())), (0, 0, 0, 0))
        self.assertEqual(length((0, (text("abc"), loop((99,), text("ab"))))), (201,))
        self.assertEqual(length((1, (text("a"), loop((1, 2), text("bc"))))), (3, 4))
        self.assertEqual(length(PROGRAM), (37, 30, 18))
        self.assertEqual(length(program=PROGRAM), (37, 30, 18))

    def test_letters(self):
        self.assertEqual(letters(PROGRAM, "a"), (1 + 1 + 2 + 8, 10, 2))
        self.assertEqual(letters(PROGRAM, "b"), (1 + 1 + 16, 20, 2))
        self.assertEqual(letters(PROGRAM, "c"), (4, 0, 8))
        self.assertEqual(letters(PROGRAM, "d"), (3, 0, 6))
        self.assertEqual(letters(letter="d", program=PROGRAM), (3, 0, 6))

    def test_letter_that_is_not_there(self):
        self.assertEqual(letters(PROGRAM, "e"), (0, 0, 0))
        self.assertEqual(letters((0, (text("ab"),)), "z"), (0,))
        self.assertEqual(letters((3, ()), "a"), (0, 0, 0, 0))
        self.assertEqual(letters((1, (loop((0, 0), text("z")), text("a"))), "z"), (0, 0))

    def test_loops_that_write_nothing(self):
        program = (2, (loop((3, 4, 0), loop((5, 0, 0))), loop((0, 0, 0), loop((0, 0, 1), text("a"))),
                       loop((0, 0, 7), text(""))))
        self.assertEqual(length(program), (0, 0, 0))
        self.assertEqual(letters(program, "a"), (0, 0, 0))

    def test_great_numbers(self):
        program = (1, (loop((99, 0), loop((99, 0), loop((999, 10 ** 6), text("ab")))),))
        self.assertEqual(length(program), (2 * 99 * 99 * 999, 2 * 99 * 99 * 10 ** 6))
        self.assertEqual(letters(program, "b"), (99 * 99 * 999, 99 * 99 * 10 ** 6))

    def test_deep_loops(self):
        self.assertEqual(length(deep_loops(25, 3)), (0, 2, 0, 0))
        self.assertEqual(letters(deep_loops(25, 3), "a"), (0, 1, 0, 0))

    def test_any_programs(self):
        for program in programs(51, 200):
            forms = {letter: letters(program, letter) for letter in "abz"}
            for form in [length(program)] + list(forms.values()):
                self.assertIs(type(form), tuple)
                self.assertEqual([type(number) for number in form], [int] * (program[0] + 1))
                self.assertGreaterEqual(min(form), 0)
            for counts in small_counts(program[0], 2):
                told = slow_text(program[1], counts)
                self.assertEqual(value_of(length(program), counts), len(told))
                for letter in "abz":
                    self.assertEqual(value_of(forms[letter], counts), told.count(letter))


class LetterAt(unittest.TestCase):
    def test_edges_of_loops(self):
        program = (1, (text("a"), loop((1, 2), text("bcd")), text("e")))
        told = "abcdbcdbcde"
        found = [letter_at(program, (1,), place) for place in range(13)]
        self.assertEqual(found, list(told) + [None, None])
        self.assertEqual(letter_at(place=10, program=program, counts=(1,)), "e")

    def test_no_letters(self):
        self.assertIsNone(letter_at((0, ()), (), 0))
        self.assertIsNone(letter_at((1, (loop((0, 1), text("a")),)), (0,), 0))
        self.assertIsNone(letter_at((1, (loop((0, 1), text("")),)), (10 ** 18,), 0))
        self.assertIsNone(letter_at((1, (loop((0, 1), loop((7, 0))),)), (10 ** 18,), 10 ** 30))

    def test_loops_that_write_nothing_are_gone_by(self):
        program = (1, (loop((0, 1)), loop((0, 0), text("z")), loop((9, 0), text("")), text("a"), loop((0, 1)), text("b")))
        self.assertEqual([letter_at(program, (10 ** 18,), place) for place in range(3)], ["a", "b", None])

    def test_great_counts_and_places(self):
        great = 10 ** 18
        program = (2, (loop((7, 10 ** 6, 0), text("ab")), text("c"), loop((2, 0, 0), loop((0, 0, 1), text("de")),
                                                                        text("f"))))
        first = 2 * (7 + 10 ** 24)
        counts = (great, great)
        self.assertEqual(letter_at(program, counts, 0), "a")
        self.assertEqual(letter_at(program, counts, first - 2), "a")
        self.assertEqual(letter_at(program, counts, first - 1), "b")
        self.assertEqual(letter_at(program, counts, first), "c")
        self.assertEqual(letter_at(program, counts, first + 1), "d")
        self.assertEqual(letter_at(program, counts, first + 2 * great), "e")
        self.assertEqual(letter_at(program, counts, first + 1 + 2 * great), "f")
        self.assertEqual(letter_at(program, counts, first + 2 + 2 * great), "d")
        self.assertEqual(letter_at(program, counts, first + 2 + 4 * great), "f")
        self.assertIsNone(letter_at(program, counts, first + 3 + 4 * great))
        self.assertIsNone(letter_at(program, counts, 10 ** 30))

    def test_deep_loops(self):
        self.assertEqual(letter_at(deep_loops(25), (10 ** 18,), 2 * 10 ** 18 - 1), "b")
        self.assertIsNone(letter_at(deep_loops(25), (10 ** 18,), 2 * 10 ** 18))

    def test_any_programs(self):
        for program in programs(52, 150):
            for counts in small_counts(program[0], 1):
                told = slow_text(program[1], counts)
                for place in range(min(len(told), 60)):
                    self.assertEqual(letter_at(program, counts, place), told[place])
                for place in (len(told), len(told) + 1, 10 ** 30):
                    self.assertIsNone(letter_at(program, counts, place))


class CountsOf(unittest.TestCase):
    def test_one(self):
        program = (1, (text("a"), loop((1, 2), text("bc"))))
        self.assertEqual(counts_of(program, "abc"), ((0,),))
        self.assertEqual(counts_of(program, "abcbcbc"), ((1,),))
        self.assertEqual(counts_of(text="abcbcbc", program=program), ((1,),))

    def test_none(self):
        program = (1, (text("a"), loop((1, 2), text("bc"))))
        for told in ("", "a", "aaa", "abb", "abd", "zzz", "abcbc", "abcbcbcb", "abcbcbb", "abcbcbd", "b" * 40):
            self.assertEqual(counts_of(program, told), ())

    def test_several_ascending(self):
        program = (2, (loop((0, 1, 0), text("a")), loop((0, 0, 1), text("aa"))))
        self.assertEqual(counts_of(program, "aaaaa"), ((1, 2), (3, 1), (5, 0)))
        program = (3, (loop((0, 1, 0, 0), text("a")), loop((0, 0, 1, 1), text("a"))))
        self.assertEqual(counts_of(program, "aa"),
                         ((0, 0, 2), (0, 1, 1), (0, 2, 0), (1, 0, 1), (1, 1, 0), (2, 0, 0)))
        program = (2, (loop((0, 2, 3), text("a")), loop((0, 1, 0), text("b")), loop((0, 0, 1), text("ab"))))
        self.assertEqual(counts_of(program, "aaab"), ())
        self.assertEqual(counts_of(program, "aaaab"), ((0, 1),))

    def test_many_at_forty_letters(self):
        program = (3, (loop((0, 1, 0, 0), text("a")), loop((0, 0, 1, 0), text("a")), loop((0, 0, 0, 1), text("a"))))
        found = counts_of(program, "a" * 40)
        self.assertEqual(len(found), 41 * 42 // 2)
        self.assertEqual(list(found), sorted(found))
        self.assertEqual(counts_of(program, "a" * 39 + "b"), ())

    def test_empty_text(self):
        self.assertEqual(counts_of((1, (loop((0, 2), text("a")),)), ""), ((0,),))
        self.assertEqual(counts_of((1, (loop((1, 2), text("a")),)), ""), ())
        self.assertEqual(counts_of((3, (loop((0, 1, 2, 3), text("a")),)), ""), ((0, 0, 0),))

    def test_no_counts(self):
        self.assertEqual(counts_of((0, ()), ""), ((),))
        self.assertEqual(counts_of((0, ()), "a"), ())
        self.assertEqual(counts_of((0, (text("ab"), loop((2,), text("c")))), "abcc"), ((),))
        self.assertEqual(counts_of((0, (text("ab"), loop((2,), text("c")))), "abccc"), ())

    def check_unused(self, program, number):
        for told in ("", "a", "b", "zz", "a" * 40):
            with self.assertRaises(Unused) as caught:
                counts_of(program, told)
            self.assertEqual(caught.exception.number, number)

    def test_unused(self):
        self.check_unused((1, ()), 0)
        self.check_unused((3, (text("a"),)), 0)
        self.check_unused((2, (loop((0, 1, 0), text("a")),)), 1)
        self.check_unused((2, (loop((0, 0, 1), text("a")),)), 0)
        self.check_unused((3, (loop((0, 1, 0, 0), text("a")),)), 1)
        self.check_unused((3, (loop((0, 1, 1, 0), text("a")),)), 2)

    def test_unused_but_in_loops_that_write_nothing(self):
        self.check_unused((2, (loop((0, 1, 0), text("a")), loop((0, 0, 1)))), 1)
        self.check_unused((2, (loop((0, 1, 0), loop((3, 0, 0), text(""))), loop((0, 0, 1), text("a")))), 0)
        self.check_unused((2, (loop((0, 1, 0), text("a")), loop((0, 0, 0), loop((0, 0, 1), text("a"))))), 1)

    def test_any_programs(self):
        seen = 0
        for program in programs(53, 400):
            form = length(program)
            if 0 in form[1:]:
                self.check_unused(program, form.index(0, 1) - 1)
                continue
            for counts in small_counts(program[0], 2):
                told = slow_text(program[1], counts)
                if len(told) <= 20:
                    seen += 1
                    slow = [other for other in small_counts(program[0], 20 // max(1, min(form[1:] or (1,))))
                            if value_of(form, other) == len(told) and slow_text(program[1], other) == told]
                    self.assertEqual(counts_of(program, told), tuple(slow))
                    self.assertIn(counts, slow)
                    self.assertFalse(holds_list(counts_of(program, told)))
        self.assertGreater(seen, 100)

    def test_every_answer_writes_the_text(self):
        program = (2, (loop((1, 2, 0), text("ab")), text("a"), loop((0, 1, 1), text("ba"))))
        found = counts_of(program, "ab" * 7 + "a")
        self.assertEqual(found, ((0, 6), (1, 3), (2, 0)))
        for counts in found:
            self.assertEqual(written(program, counts), "ab" * 7 + "a")


if __name__ == "__main__":
    unittest.main()
