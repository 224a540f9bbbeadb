"""[7], [8], [9]: rows and plain rows."""

import copy
import random
import unittest

from everycount.programs import is_program, written
from everycount.rows import flat, is_plain, is_row, plain, row_program
from tests import samples
from tests.samples import deep_loops, holds_list, loop, programs, row_text, rows, small_counts, text

FIRST = (2, (loop((1, 1, 0), text("ba")), loop((0, 0, 1), text("a"))))
SECOND = (2, (loop((0, 1, 0), text("ba")), text("b"), loop((1, 0, 1), text("a"))))
BOTH_PLAIN = (2, ("", "b", "a"), (("ba", (0, 1, 0)), ("a", (0, 0, 1))))


class Flat(unittest.TestCase):
    def check(self, program, row):
        self.assertEqual(flat(program), row)
        self.assertEqual(samples.slow_flat(program), row)

    def test_no_counts(self):
        self.check((0, ()), (0, ("",), ()))
        self.check((0, (text("a"), text(""), loop((2,), text("b"), loop((3,), text("c"))))),
                   (0, ("abcccbccc",), ()))

    def test_fixed_loops_are_written_out(self):
        self.check((1, (text("a"), loop((3, 0), text("bc")), text("d"))), (1, ("abcbcbcd",), ()))

    def test_open_loops_stay(self):
        self.check((1, (text("a"), loop((3, 2), text("b"), text("c")), text("d"))),
                   (1, ("a", "d"), (("bc", (3, 2)),)))

    def test_fixed_loops_within_open_ones(self):
        self.check((1, (loop((0, 1), text("a"), loop((2, 0), text("b"), loop((2, 0), text("c"))), text("d")),)),
                   (1, ("", ""), (("abccbccd", (0, 1)),)))

    def test_open_loops_within_fixed_ones(self):
        self.check((1, (text("x"), loop((3, 0), text("a"), loop((0, 1), text("b")), text("c")), text("y"))),
                   (1, ("xa", "ca", "ca", "cy"), (("b", (0, 1)),) * 3))
        self.check((2, (loop((2, 0, 0), loop((2, 0, 0), loop((1, 0, 1), text("b")), text("c"))),)),
                   (2, ("", "c", "c", "c", "c"), (("b", (1, 0, 1)),) * 4))

    def test_loops_that_go_no_times(self):
        self.check((1, (text("a"), loop((0, 0), text("b"), loop((0, 1), text("c"))), text("d"))), (1, ("ad",), ()))
        self.check((1, (loop((0, 1), text("a"), loop((0, 0), text("b"))),)), (1, ("", ""), (("a", (0, 1)),)))
        self.check((1, (loop((0, 1), loop((0, 0), text("b"))),)), (1, ("",), ()))

    def test_long_texts_that_go_no_times(self):
        within = loop((10 ** 6, 0), loop((10 ** 6, 0), text("b"), loop((1, 1), text("c"))))
        self.assertEqual(flat((1, (loop((0, 0), within), text("a")))), (1, ("a",), ()))

    def test_loops_with_no_word(self):
        self.check((1, (text("a"), loop((1, 1)), text("b"))), (1, ("ab",), ()))
        self.check((1, (text("a"), loop((1, 1), text("")), text("b"))), (1, ("ab",), ()))
        self.check((1, (text("a"), loop((1, 1), loop((5, 0), text(""))), text("b"))), (1, ("ab",), ()))
        self.check((1, (text("a"), loop((9, 0), loop((1, 1), text("")), text("")), text("b"))), (1, ("ab",), ()))

    def test_great_numbers_of_nothing(self):
        nothing = loop((10 ** 30, 0), loop((10 ** 30, 0), loop((0, 1), text("")), text("")))
        program = (1, (text("a"), nothing, loop((0, 1), loop((10 ** 30, 0), text("")), text("b"))))
        self.assertEqual(flat(program), (1, ("a", ""), (("b", (0, 1)),)))

    def test_open_loops_side_by_side(self):
        self.check((2, (loop((0, 1, 0), text("a")), loop((0, 0, 1), text("a")), text(""), loop((0, 1, 0), text("a")))),
                   (2, ("", "", "", ""), (("a", (0, 1, 0)), ("a", (0, 0, 1)), ("a", (0, 1, 0)))))

    def test_is_not_made_plain(self):
        self.check((1, (text("aa"), loop((2, 1), text("aa")))), (1, ("aa", ""), (("aa", (2, 1)),)))

    def test_twelve_loops(self):
        program = (3, (loop((3, 0, 0, 0), loop((4, 0, 0, 0), loop((999, 1, 0, 10 ** 6), text("ab")), text("c"))),))
        self.check(program, (3, ("",) + ("c",) * 12, (("ab", (999, 1, 0, 10 ** 6)),) * 12))

    def test_deep_loops(self):
        self.check(deep_loops(25), (1, ("", ""), (("ab", (0, 1)),)))

    def test_by_name(self):
        self.assertEqual(flat(program=FIRST), (2, ("", "", ""), (("ba", (1, 1, 0)), ("a", (0, 0, 1)))))

    def test_any_programs(self):
        for program in programs(71, 400):
            row = flat(program)
            self.assertEqual(row, samples.slow_flat(program))
            self.assertIs(is_row(row), True)
            self.assertFalse(holds_list(row))
            for counts in small_counts(program[0], 1):
                self.assertEqual(row_text(row, counts), samples.slow_text(program[1], counts))


class RowProgram(unittest.TestCase):
    def check(self, row):
        program = row_program(row)
        self.assertIs(is_program(program), True)
        self.assertEqual(flat(program), row)
        self.assertFalse(holds_list(program))

    def test_rows(self):
        self.check((0, ("",), ()))
        self.check((0, ("abc",), ()))
        self.check((3, ("",), ()))
        self.check((1, ("a", "b"), (("ba", (999, 10 ** 6)),)))
        self.check((2, ("", "", ""), (("a", (0, 1, 0)), ("a", (0, 1, 0)))))
        self.check((2, ("aa", "aa", "aa"), (("aa", (1, 1, 0)), ("aa", (1, 1, 0)))))
        self.check((1, ("a" * 100,) * 13, (("b", (0, 1)),) * 12))
        self.check((7, ("a",), ()))

    def test_any_rows(self):
        for row in rows(72, 200):
            self.check(row)

    def test_by_name(self):
        self.assertEqual(row_program(row=BOTH_PLAIN), row_program(BOTH_PLAIN))


NOT_ROWS = [
    None, True, False, 0, 3, "", "abc", (), [], (1,), (1, ("",)), (1, ("",), (), ()), [1, ("",), ()],
    (True, ("",), ()), (False, ("",), ()), (-1, ("",), ()), (None, ("",), ()), ("1", ("",), ()), ((1,), ("",), ()),
    (1, [""], ()), (1, ("",), []), (1, "a", ()), (1, None, ()), (1, 1, ()), (1, ("",), ""), (1, ("",), None), (1, ("",), 0),
    (1, (), ()), (1, ("", ""), ()), (1, ("",), (("a", (0, 1)),)), (1, ("", "", ""), (("a", (0, 1)),)),
    (1, (None,), ()), (1, (1,), ()), (1, (True,), ()), (1, (["a"],), ()), (1, (("a",),), ()),
    (1, ("A",), ()), (1, (" ",), ()), (1, ("a\n",), ()), (1, ("1",), ()), (1, ("\u00e4",), ()),
    (1, ("", ""), (("", (0, 1)),)), (1, ("", ""), (("A", (0, 1)),)), (1, ("", ""), (("\u00df", (0, 1)),)),
    (1, ("", ""), ((None, (0, 1)),)), (1, ("", ""), ((1, (0, 1)),)), (1, ("", ""), ((("a",), (0, 1)),)),
    (1, ("", ""), ((["a"], (0, 1)),)), (1, ("", ""), (((), (0, 1)),)), (1, ("", ""), (([], (0, 1)),)),
    (1, ("", ""), (["a", (0, 1)],)), (1, ("", ""), (("a",),)), (1, ("", ""), (("a", (0, 1), ()),)), (1, ("", ""), ((),)),
    (1, ("", ""), ("ab",)), (1, ("", ""), (None,)), (1, ("", ""), (0,)), (1, ("", ""), [("a", (0, 1))]),
    (1, ("", ""), (("a", [0, 1]),)), (1, ("", ""), (("a", None),)), (1, ("", ""), (("a", 1),)), (1, ("", ""), (("a", "ab"),)),
    (1, ("", ""), (("a", ()),)), (1, ("", ""), (("a", (1,)),)), (1, ("", ""), (("a", (0, 1, 0)),)),
    (2, ("", ""), (("a", (0, 1)),)), (0, ("", ""), (("a", (0, 1)),)), (0, ("", ""), (("a", (1,)),)),
    (1, ("", ""), (("a", (1, 0)),)), (1, ("", ""), (("a", (0, 0)),)), (3, ("", ""), (("a", (5, 0, 0, 0)),)),
    (1, ("", ""), (("a", (-1, 1)),)), (1, ("", ""), (("a", (0, -1)),)), (1, ("", ""), (("a", (True, 1)),)),
    (1, ("", ""), (("a", (0, True)),)), (1, ("", ""), (("a", (False, 1)),)), (1, ("", ""), (("a", (None, 1)),)),
    (1, ("", ""), (("a", ("0", 1)),)), (1, ("", ""), (("a", (0, (1,))),)),
    (2, ("", "", ""), (("a", (0, 1, 0)), ("b", (0, 0, 0)))), (2, ("", "", ""), (("a", (0, 0, 0)), ("b", (0, 0, 1)))),
    (1, (("text", "a"), ("loop", (0, 1), ()))),
]


class IsRow(unittest.TestCase):
    def test_rows(self):
        long_number = 10 ** 599 + 1
        for row in [(0, ("",), ()), (0, ("abc",), ()), (4, ("",), ()), (long_number, ("a",), ()), BOTH_PLAIN,
                    (1, ("", ""), (("a", (long_number, long_number)),)),
                    (6, ("", ""), (("a", (0, 0, 0, 0, 0, 0, 1)),)),
                    (1, ("a",) * 301, (("b", (5, 1)),) * 300),
                    (1, ("abcdefghijklmnopqrstuvwxyz", ""), (("aa", (2, 1)),))]:
            self.assertIs(is_row(row), True, row)
            self.assertIs(is_row(value=row), True)

    def test_other_values(self):
        for value in NOT_ROWS:
            self.assertIs(is_row(value), False, value)

    def test_programs(self):
        for program in programs(73, 50):
            self.assertIs(is_row(program), False)

    def test_each_part_made_wrong(self):
        for row in rows(74, 40):
            self.assertIs(is_row(row), True)
            for number in range(3):
                for other in (None, True, False, -1, [], "A", (None,), list(row[1]), list(row[2])):
                    self.assertIs(is_row(row[:number] + (other,) + row[number + 1:]), False)
            for number, (word, form) in enumerate(row[2]):
                for pair in (("", form), (word + "A", form), (word, list(form)), (word, form + (0,)), (word, form[:-1]),
                             (word, (True,) + form[1:]), (word, form[:-1] + (True,)), (word, (3,) + (0,) * row[0]),
                             (word, (-1,) + form[1:]), [word, form], (form, word), (word, form, form)):
                    loops = row[2][:number] + (pair,) + row[2][number + 1:]
                    self.assertIs(is_row((row[0], row[1], loops)), False)

    def test_deep_and_long_values(self):
        value = ()
        for _ in range(3000):
            value = (1, value, ())
        self.assertIs(is_row(value), False)
        self.assertIs(is_row((1, ("", ""), (("a", value),))), False)
        self.assertIs(is_row((1, ("",) * 1000, ())), False)

    def test_argument_is_not_changed(self):
        value = [1, ["", ""], [["a", [0, 1]]]]
        kept = copy.deepcopy(value)
        self.assertIs(is_row(value), False)
        self.assertIs(is_row((1, ("", ""), value)), False)
        self.assertEqual(value, kept)


class IsPlain(unittest.TestCase):
    def test_plain_rows(self):
        for row in [(0, ("",), ()), (0, ("aa",), ()), (3, ("abab",), ()), BOTH_PLAIN,
                    (1, ("", ""), (("ab", (0, 5)),)), (1, ("a", "b"), (("ab", (0, 5)),)),
                    (2, ("", "", ""), (("ab", (0, 1, 0)), ("ba", (0, 0, 1)))),
                    (2, ("", "b", ""), (("a", (0, 1, 0)), ("a", (0, 0, 1)))),
                    (1, ("", "", "", ""), (("a", (0, 1)), ("b", (0, 1)), ("a", (0, 1)))),
                    (1, ("a", ""), (("aab", (0, 1)),)), (1, ("", ""), (("abaab", (0, 1)),))]:
            self.assertIs(is_plain(row), True, row)
            self.assertIs(is_plain(row=row), True)

    def test_word_that_is_a_shorter_one_some_times(self):
        for word in ("aa", "aaa", "abab", "ababab", "aabaab"):
            self.assertIs(is_plain((1, ("", ""), ((word, (0, 1)),))), False, word)
        self.assertIs(is_plain((1, ("", "", ""), (("b", (0, 1)), ("caca", (0, 1))))), False)

    def test_constant_of_a_form(self):
        for constant in (1, 2, 999):
            self.assertIs(is_plain((1, ("", ""), (("a", (constant, 1)),))), False)
        self.assertIs(is_plain((2, ("", "", ""), (("a", (0, 1, 0)), ("b", (1, 0, 1))))), False)

    def test_last_letter_ahead(self):
        self.assertIs(is_plain((1, ("a", ""), (("a", (0, 1)),))), False)
        self.assertIs(is_plain((1, ("cb", ""), (("ab", (0, 1)),))), False)
        self.assertIs(is_plain((2, ("", "b", ""), (("a", (0, 1, 0)), ("ab", (0, 0, 1))))), False)

    def test_two_loops_with_one_word(self):
        self.assertIs(is_plain((2, ("", "", ""), (("ab", (0, 1, 0)), ("ab", (0, 0, 1))))), False)
        self.assertIs(is_plain((2, ("", "", ""), (("ab", (0, 1, 0)), ("ab", (0, 1, 0))))), False)
        self.assertIs(is_plain((1, ("", "", "", ""), (("b", (0, 1)), ("a", (0, 1)), ("a", (0, 1))))), False)

    def test_several_at_once(self):
        self.assertIs(is_plain((1, ("a", ""), (("aa", (1, 1)),))), False)
        self.assertIs(is_plain((1, ("a", "", ""), (("aa", (1, 1)), ("aa", (1, 1))))), False)
        self.assertIs(is_plain((1, ("b", "", ""), (("a", (2, 1)), ("a", (0, 1))))), False)

    def test_any_rows(self):
        chance = random.Random(81)
        seen = {True: 0, False: 0}
        for _ in range(3000):
            k = chance.randint(1, 2)
            row = samples.any_row(chance, k, chance.randint(0, 3), 3, "abc")
            if chance.random() < 0.7:
                row = (k, row[1], tuple((word, (0,) + form[1:]) for word, form in row[2]))
            found = samples.slow_is_plain(row)
            seen[found] += 1
            self.assertIs(is_plain(row), found, row)
        self.assertGreater(min(seen.values()), 300)


class Plain(unittest.TestCase):
    def check(self, row, expected):
        program = row_program(row)
        self.assertEqual(plain(program), expected)
        self.assertIs(is_plain(expected), True)
        self.check_promises(program)

    def check_promises(self, program, most=2):
        row = plain(program)
        self.assertIs(is_row(row), True)
        self.assertIs(is_plain(row), True)
        self.assertIs(samples.slow_is_plain(row), True)
        self.assertEqual(row[0], program[0])
        self.assertEqual(plain(row_program(row)), row)
        self.assertEqual(flat(row_program(row)), row)
        self.assertFalse(holds_list(row))
        for counts in small_counts(program[0], most):
            told = written(program, counts)
            self.assertEqual(row_text(row, counts), told)
            self.assertEqual(written(row_program(row), counts), told)

    def test_example_of_the_document(self):
        self.assertEqual(plain(FIRST), BOTH_PLAIN)
        self.assertEqual(plain(SECOND), BOTH_PLAIN)
        self.assertEqual(plain(program=SECOND), BOTH_PLAIN)
        self.check_promises(FIRST)
        self.check_promises(SECOND)

    def test_no_loops(self):
        self.check((0, ("",), ()), (0, ("",), ()))
        self.check((2, ("abab",), ()), (2, ("abab",), ()))

    def test_word_becomes_its_root(self):
        self.check((1, ("", ""), (("aaa", (0, 2)),)), (1, ("", ""), (("a", (0, 6)),)))
        self.check((2, ("", ""), (("abab", (0, 1, 3)),)), (2, ("", ""), (("ab", (0, 2, 6)),)))

    def test_root_makes_the_constant_greater(self):
        self.check((1, ("", "c"), (("abab", (2, 1)),)), (1, ("", "ababababc"), (("ab", (0, 2)),)))

    def test_constant_goes_behind(self):
        self.check((1, ("", "c"), (("ab", (3, 1)),)), (1, ("", "abababc"), (("ab", (0, 1)),)))

    def test_letters_go_through_the_loop(self):
        self.check((1, ("ca", "d"), (("ba", (0, 1)),)), (1, ("c", "ad"), (("ab", (0, 1)),)))
        self.check((1, ("cabab", "d"), (("ab", (0, 1)),)), (1, ("c", "ababd"), (("ab", (0, 1)),)))
        self.check((1, ("babab", "d"), (("ab", (0, 1)),)), (1, ("", "bababd"), (("ba", (0, 1)),)))
        self.check((1, ("aaa", ""), (("a", (0, 1)),)), (1, ("", "aaa"), (("a", (0, 1)),)))

    def test_constant_and_letters(self):
        self.check((1, ("cba", "d"), (("ba", (2, 1)),)), (1, ("c", "bababad"), (("ba", (0, 1)),)))
        self.check((1, ("ca", "d"), (("ba", (1, 1)),)), (1, ("c", "abad"), (("ab", (0, 1)),)))

    def test_loops_become_one(self):
        self.check((2, ("", "", ""), (("a", (0, 1, 0)), ("a", (0, 0, 1)))), (2, ("", ""), (("a", (0, 1, 1)),)))
        self.check((1, ("", "", "", ""), (("ab", (0, 1)), ("ab", (0, 2)), ("ab", (0, 3)))),
                   (1, ("", ""), (("ab", (0, 6)),)))

    def test_root_lets_loops_become_one(self):
        self.check((1, ("", "", ""), (("aa", (0, 1)), ("aaa", (0, 1)))), (1, ("", ""), (("a", (0, 5)),)))

    def test_constant_lets_letters_go_through(self):
        """What an earlier loop puts behind it goes through the next one."""
        self.check((2, ("", "", "c"), (("ab", (1, 1, 0)), ("b", (0, 0, 1)))),
                   (2, ("", "a", "bc"), (("ab", (0, 1, 0)), ("b", (0, 0, 1)))))
        self.check((2, ("", "", "c"), (("ab", (1, 1, 0)), ("ab", (0, 0, 1)))),
                   (2, ("", "abc"), (("ab", (0, 1, 1)),)))

    def test_letters_let_loops_become_one(self):
        self.check((2, ("", "a", ""), (("ab", (0, 1, 0)), ("ba", (0, 0, 1)))), (2, ("", "a"), (("ab", (0, 1, 1)),)))
        self.check((1, ("", "ab", "c"), (("ab", (0, 1)), ("ab", (0, 1)))), (1, ("", "abc"), (("ab", (0, 2)),)))

    def test_later_loop_waits_for_earlier_ones(self):
        """The last loop becomes one with the first only when the letters between have gone through."""
        self.check((3, ("b", "", "", "a"), (("ab", (1, 1, 0, 0)), ("baba", (0, 0, 1, 0)), ("ab", (0, 0, 0, 1)))),
                   samples.slow_plain((3, ("b", "", "", "a"), (("ab", (1, 1, 0, 0)), ("baba", (0, 0, 1, 0)),
                                                               ("ab", (0, 0, 0, 1)))), random.Random(1)))
        self.check((3, ("", "ab", "a", "b"), (("ab", (0, 1, 0, 0)), ("ab", (0, 0, 1, 0)), ("ba", (1, 0, 0, 1)))),
                   (3, ("", "ababab"), (("ab", (0, 1, 1, 1)),)))

    def test_first_turn_of_a_loop_changes_the_next_ones_neighbour(self):
        self.check((2, ("a", "", ""), (("ba", (0, 1, 0)), ("ab", (0, 0, 1)))),
                   (2, ("", "a", ""), (("ab", (0, 1, 0)), ("ab", (0, 0, 1)))))

    def test_not_one_loop_where_words_are_turned(self):
        self.check((2, ("", "", ""), (("ab", (0, 1, 0)), ("ba", (0, 0, 1)))),
                   (2, ("", "", ""), (("ab", (0, 1, 0)), ("ba", (0, 0, 1)))))

    def test_nested_loops(self):
        program = (1, (loop((2, 0), loop((1, 1), text("a"), loop((1, 0), text("a"))), text("b")),))
        self.assertEqual(plain(program), (1, ("", "aab", "aab"), (("a", (0, 2)), ("a", (0, 2)))))
        self.check_promises(program)

    def test_twelve_loops_and_three_hundred_letters(self):
        row = (1, ("a" * 20,) * 13, (("aa", (1, 1)),) * 12)
        self.check(row, (1, ("", "a" * 284), (("a", (0, 24)),)))
        row = (1, ("ab" * 5,) + ("ba" * 5,) * 12, (("bababa", (0, 1)),) * 12)
        self.check_promises(row_program(row))
        self.assertEqual(plain(row_program(row)), samples.slow_plain(row, random.Random(3)))
        row = (3, ("", "a" * 149 + "b", ""), (("a" * 100, (0, 1, 0, 0)), ("a" * 50 + "b", (0, 0, 0, 1))))
        self.assertEqual(plain(row_program(row)), samples.slow_plain(row, random.Random(4)))

    def test_great_numbers(self):
        row = (2, ("a", ""), (("aaa", (10, 10 ** 6, 10 ** 5)),))
        self.assertEqual(plain(row_program(row)), (2, ("", "a" * 31), (("a", (0, 3 * 10 ** 6, 3 * 10 ** 5)),)))

    def test_any_programs(self):
        chance = random.Random(91)
        for program in programs(92, 300):
            self.check_promises(program, 1)
            self.assertEqual(plain(program), samples.slow_plain(flat(program), chance))

    def test_any_rows(self):
        """The steps of [9] in any order lead to the same row."""
        chance = random.Random(93)
        for row in rows(94, 250):
            program = row_program(row)
            self.assertEqual(plain(program), samples.slow_plain(row, chance))
            self.assertIs(is_plain(plain(program)), True)
            self.assertEqual(row_text(plain(program), (1,) * row[0]), row_text(row, (1,) * row[0]))

    def test_same_texts_same_plain_row(self):
        """Of small rows with one count, those with the same texts have one plain row, others have not."""
        chance = random.Random(95)
        by_texts = {}
        for _ in range(4000):
            row = samples.any_row(chance, 1, chance.randint(0, 2), 2)
            texts = tuple(row_text(row, (count,)) for count in range(31))
            by_texts.setdefault(texts, set()).add(plain(row_program(row)))
        self.assertEqual({len(found) for found in by_texts.values()}, {1})
        self.assertLess(len(by_texts), 3900)
        different = {found for known in by_texts.values() for found in known}
        self.assertEqual(len(different), len(by_texts))

    def test_same_answer_again(self):
        for program in programs(96, 30):
            self.assertEqual((flat(program), plain(program)), (flat(program), plain(program)))


if __name__ == "__main__":
    unittest.main()
