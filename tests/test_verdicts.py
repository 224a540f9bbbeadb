"""[3], [10], [11]: whether programs are alike, where they part, and how their texts stand in a dictionary."""

import copy
import itertools
import random
import unittest

from everycount.checker import parting
from everycount.counting import length
from everycount.moves import moves
from everycount.rows import plain
from everycount.verdicts import alike, least_parted, order, parted_at, renamed, shared
from tests import samples
from tests.samples import (alike_program, any_pair, any_row, deep_loops, holds_list, loop, programs, row_parts,
                           slow_common, slow_least_parted, slow_text, text)

FIRST = (2, (loop((1, 1, 0), text("ba")), loop((0, 0, 1), text("a"))))
SECOND = (2, (loop((0, 1, 0), text("ba")), text("b"), loop((1, 0, 1), text("a"))))

# (ab)**n and a**n b**n are alike at the counts 0 and 1 alone.
TURNS = (1, (loop((0, 1), text("ab")),))
BLOCKS = (1, (loop((0, 1), text("a")), loop((0, 1), text("b"))))

# a**n b**m and b**m a**n are alike where one of the counts is 0.
A_THEN_B = (2, (loop((0, 1, 0), text("a")), loop((0, 0, 1), text("b"))))
B_THEN_A = (2, (loop((0, 0, 1), text("b")), loop((0, 1, 0), text("a"))))

NOTHINGS = [(1, ()), (1, (text(""),)), (1, (loop((0, 1)), text(""))), (1, (loop((0, 0), loop((0, 1), text("a"))),)),
            (1, (loop((5, 10 ** 6), loop((3, 0), text(""))),))]


def pairs(seed, many, most_counts=2, loops=3):
    chance = random.Random(seed)
    return [any_pair(chance, most_counts, loops) for _ in range(many)]


class Alike(unittest.TestCase):
    def check(self, one, other, expected):
        self.assertIs(alike(one, other), expected)
        self.assertIs(alike(other, one), expected)
        self.assertIs(alike(other=one, one=other), expected)
        self.assertIs(parted_at(one, other) is None, expected)
        self.assertIs(least_parted(one, other) is None, expected)
        self.assertIs(moves(one, other) is None, not expected)

    def test_written_otherwise(self):
        self.check(FIRST, SECOND, True)
        self.check((1, (loop((1, 2), text("aa")),)), (1, (loop((2, 4), text("a")),)), True)
        self.check((1, (loop((0, 1), text("ab")), text("a"))), (1, (text("a"), loop((0, 1), text("ba")))), True)
        self.check((2, (loop((0, 1, 1), text("ab")),)),
                   (2, (loop((0, 0, 1), text("ab")), loop((0, 1, 0), text("ab")))), True)
        self.check((1, (loop((2, 0), loop((0, 1), text("a"))),)), (1, (loop((0, 2), text("a")),)), True)

    def test_no_counts(self):
        self.check((0, ()), (0, (text(""),)), True)
        self.check((0, (text("abab"),)), (0, (loop((2,), text("ab")),)), True)
        self.check((0, ()), (0, (text("a"),)), False)
        self.check((0, (text("ab"),)), (0, (text("aba"),)), False)
        self.check((0, (text("ab"),)), (0, (text("ac"),)), False)

    def test_no_letters(self):
        for one, other in itertools.product(NOTHINGS, repeat=2):
            self.check(one, other, True)
        for one in NOTHINGS:
            self.check(one, (1, (loop((0, 1), text("a")),)), False)
            self.check(one, (1, (text("a"),)), False)

    def test_alike_at_some_counts_alone(self):
        self.check(TURNS, BLOCKS, False)
        self.check(A_THEN_B, B_THEN_A, False)
        self.check((1, (loop((0, 1), text("a")),)), (1, (loop((0, 2), text("a")),)), False)
        self.check((1, (loop((0, 1), text("a")),)), (1, ()), False)
        self.check((1, (text("a"), loop((0, 1), text("ab")))), (1, (text("a"), loop((0, 1), text("ba")))), False)

    def test_one_text_begins_with_the_other(self):
        self.check((1, (loop((0, 1), text("a")),)), (1, (loop((1, 1), text("a")),)), False)
        self.check(TURNS, (1, (loop((0, 1), text("ab")), text("a"))), False)

    def test_any_pairs(self):
        seen = {True: 0, False: 0}
        for one, other in pairs(101, 1200):
            expected = slow_least_parted(one, other) is None
            seen[expected] += 1
            self.check(one, other, expected)
        self.assertGreater(min(seen.values()), 300)

    def test_any_programs(self):
        chance = random.Random(102)
        for program in programs(103, 150):
            self.check(program, alike_program(chance, program), True)

    def test_great_and_deep_programs(self):
        row = (3, ("ab",) * 13, (("ba", (1, 10 ** 6, 0, 3)),) * 12)
        program = row_parts(row)
        self.check(program, alike_program(random.Random(104), program, 60), True)
        self.check(program, row_parts((3, ("ab",) * 13, (("ba", (1, 10 ** 6, 0, 3)),) * 11 + (("ba", (1, 10 ** 6, 0, 4)),))),
                   False)
        self.check(deep_loops(25), TURNS, True)
        self.check(deep_loops(25), BLOCKS, False)


class PartedAt(unittest.TestCase):
    def check(self, one, other):
        found = parted_at(one, other)
        self.assertIs(type(found), tuple)
        self.assertEqual(len(found), 2)
        self.assertFalse(holds_list(found))
        counts, place = found
        self.assertEqual(len(counts), one[0])
        self.assertLessEqual(max(counts, default=0), 10 ** 4)
        self.assertIs(parting(one, other, found), True)
        return counts, place

    def check_slowly(self, one, other):
        """What [10] asks of the pair, from the texts themselves."""
        counts, place = self.check(one, other)
        first, second = slow_text(one[1], counts), slow_text(other[1], counts)
        self.assertEqual(first[:place], second[:place])
        self.assertLessEqual(place, min(len(first), len(second)))
        self.assertNotEqual(first[place:place + 1], second[place:place + 1])

    def test_alike(self):
        self.assertIsNone(parted_at(FIRST, SECOND))
        self.assertIsNone(parted_at(one=FIRST, other=FIRST))
        self.assertIsNone(parted_at((0, ()), (0, (text(""),))))
        self.assertIsNone(parted_at(NOTHINGS[0], NOTHINGS[4]))

    def test_some(self):
        self.check_slowly(TURNS, BLOCKS)
        self.check_slowly(A_THEN_B, B_THEN_A)
        self.check_slowly((1, (loop((0, 1), text("a")),)), (1, (loop((1, 1), text("a")),)))
        self.check_slowly((1, (loop((0, 1), text("a")),)), (1, ()))
        self.assertEqual(parted_at((0, (text("ab"),)), (0, (text("ac"),))), ((), 1))
        self.assertEqual(parted_at(other=(0, (text("ab"),)), one=(0, (text("abc"),))), ((), 2))
        self.assertEqual(parted_at((0, ()), (0, (text("a"),))), ((), 0))

    def test_any_pairs(self):
        seen = 0
        for one, other in pairs(111, 800):
            if slow_least_parted(one, other) is not None:
                seen += 1
                self.check_slowly(one, other)
                self.check_slowly(other, one)
        self.assertGreater(seen, 300)

    def test_great_factors(self):
        for word, other_word in (("ab", "ab"), ("aab", "aab"), ("ab", "aba")):
            one = (2, (loop((0, 10 ** 6, 0), text(word)), loop((0, 0, 10 ** 6), text("a")), text("b")))
            other = (2, (loop((0, 10 ** 6, 0), text(other_word)), loop((0, 0, 10 ** 6 - 1), text("a")), text("b")))
            self.check(one, other)
            self.check(other, one)


class LeastParted(unittest.TestCase):
    def check(self, one, other, expected):
        self.assertEqual(least_parted(one, other), expected)
        self.assertEqual(least_parted(other=one, one=other), expected)

    def test_some(self):
        self.check((0, (text("ab"),)), (0, (text("ac"),)), ())
        self.check(TURNS, BLOCKS, (2,))
        self.check(A_THEN_B, B_THEN_A, (1, 1))
        self.check((1, (loop((0, 1), text("a")),)), (1, (loop((0, 2), text("a")),)), (1,))
        self.check((1, (loop((0, 1), text("a")),)), (1, (loop((1, 1), text("a")),)), (0,))
        self.check((3, ()), (3, (text("a"),)), (0, 0, 0))
        self.check(FIRST, SECOND, None)
        self.check((0, ()), (0, ()), None)

    def test_least_of_one_sum(self):
        for numbers in itertools.product((0, 1), repeat=3):
            if any(numbers):
                other = (3, (loop((0,) + numbers, text("a")),))
                expected = [counts for counts in ((0, 0, 1), (0, 1, 0), (1, 0, 0))
                            if sum(one * two for one, two in zip(counts, numbers))]
                self.check((3, ()), other, expected[0])

    def test_sum_goes_ahead_of_order(self):
        """They part at (0, 2) and at (1, 0), of which the second has the lesser sum."""
        one = (2, (loop((0, 0, 1), text("aab")), loop((0, 1, 0), text("c"))))
        other = (2, (loop((0, 0, 1), text("a")), loop((0, 0, 1), text("ab"))))
        self.assertEqual(slow_least_parted((2, one[1][:1]), other), (0, 2))
        self.check(one, other, (1, 0))

    def test_any_pairs(self):
        greatest = 0
        for one, other in pairs(121, 1200):
            expected = slow_least_parted(one, other)
            self.check(one, other, expected)
            greatest = max(greatest, sum(expected or ()))
        self.assertGreaterEqual(greatest, 1)

    def test_pairs_alike_at_small_counts(self):
        """Loops in another order, so that the texts part at greater counts only."""
        chance = random.Random(122)
        found = []
        for _ in range(600):
            k = chance.randint(1, 3)
            loops = [(chance.choice(("a", "b", "ab", "ba")), chance.choice(samples.small_counts(k, 1)[1:]))
                     for _ in range(chance.randint(2, 5))]
            shuffled = chance.sample(loops, len(loops))
            one = (k, tuple(loop((0,) + factors, text(word)) for word, factors in loops))
            other = (k, tuple(loop((0,) + factors, text(word)) for word, factors in shuffled))
            expected = slow_least_parted(one, other)
            self.check(one, other, expected)
            found.append(sum(expected or ()))
        self.assertGreater(found.count(2), 20)

    def test_great_factors(self):
        row = (3, ("",) + ("c",) * 12, (("ab", (0, 10 ** 6, 10 ** 6 - 1, 10 ** 6)),) * 12)
        other = (3, ("",) + ("c",) * 11 + ("d",), row[2])
        self.check(row_parts(row), row_parts(other), (0, 0, 0))
        other = (3, row[1], row[2][:11] + (("ab", (0, 10 ** 6, 10 ** 6, 10 ** 6)),))
        self.check(row_parts(row), row_parts(other), (0, 1, 0))


def at_named(counts, numbers):
    return tuple(counts[number] for number in numbers)


class Renamed(unittest.TestCase):
    def slow(self, one, other, most):
        for numbers in itertools.permutations(range(one[0])):
            if all(slow_text(one[1], counts) == slow_text(other[1], at_named(counts, numbers))
                   for counts in samples.small_counts(one[0], most)):
                return numbers
        return None

    def test_no_counts(self):
        self.assertEqual(renamed((0, (text("aa"),)), (0, (loop((2,), text("a")),))), ())
        self.assertIsNone(renamed((0, (text("aa"),)), (0, (text("a"),))))

    def test_one_count(self):
        self.assertEqual(renamed(TURNS, deep_loops(25)), (0,))
        self.assertIsNone(renamed(TURNS, BLOCKS))

    def test_two_counts(self):
        turned = (2, (loop((0, 0, 1), text("a")), loop((0, 1, 0), text("b"))))
        self.assertEqual(renamed(A_THEN_B, A_THEN_B), (0, 1))
        self.assertEqual(renamed(A_THEN_B, turned), (1, 0))
        self.assertIsNone(renamed(A_THEN_B, B_THEN_A))
        self.assertIsNone(renamed(other=turned, one=B_THEN_A))

    def test_three_counts_each_way(self):
        """The counts of other that stand at a, b and c are told apart: t is no tuple and not the opposite one."""
        one = (3, tuple(loop((0,) + tuple(int(number == own) for own in range(3)), text("abc"[number]))
                        for number in range(3)))
        for numbers in itertools.permutations(range(3)):
            # The count of other with the number i is to be the one of one with the number numbers[i].
            other = (3, tuple(loop((0,) + tuple(int(numbers[own] == number) for own in range(3)), text("abc"[number]))
                              for number in range(3)))
            self.assertEqual(renamed(one, other), numbers)
            self.assertEqual(self.slow(one, other, 2), numbers)

    def test_first_one(self):
        same = (3, (loop((0, 2, 1, 1), text("a")),))
        self.assertEqual(renamed(same, same), (0, 1, 2))
        self.assertEqual(renamed(same, (3, (loop((0, 1, 2, 1), text("a")),))), (1, 0, 2))
        self.assertEqual(renamed(same, (3, (loop((0, 1, 1, 2), text("a")),))), (1, 2, 0))
        self.assertEqual(renamed((3, ()), (3, (text(""),))), (0, 1, 2))
        self.assertIsNone(renamed((3, ()), (3, (text("a"),))))

    def test_written_otherwise(self):
        chance = random.Random(131)
        seen = {}
        for _ in range(300):
            k = chance.randint(1, 3)
            one = row_parts(any_row(chance, k, chance.randint(1, 3), 2))
            numbers = chance.choice(list(itertools.permutations(range(k))))
            forms = [(form[0],) + tuple(form[numbers[own] + 1] for own in range(k)) for _, form in samples.slow_flat(one)[2]]
            texts, words = samples.slow_flat(one)[1], [word for word, _ in samples.slow_flat(one)[2]]
            other = alike_program(chance, row_parts((k, texts, tuple(zip(words, forms)))), 10)
            found = renamed(one, other)
            self.assertIsNotNone(found)
            self.assertLessEqual(found, numbers)
            self.assertEqual(found, self.slow(one, other, 2))
            seen[found] = True
        self.assertEqual(len(seen), 1 + 2 + 6)

    def test_any_pairs(self):
        none = 0
        for one, other in pairs(132, 400, 2):
            expected = self.slow(one, other, 3)
            none += expected is None
            self.assertEqual(renamed(one, other), expected)
        self.assertGreater(none, 50)


def slow_sign(one, other, count):
    first, second = slow_text(one[1], (count,)), slow_text(other[1], (count,))
    return (first > second) - (first < second)


def edge_of(one, other):
    """5 * S of [10]."""
    return 5 * (samples.row_size(plain(one)) + samples.row_size(plain(other)))


def one_count_pairs(seed, many, loops=3):
    return [(one, other) for one, other in pairs(seed, many * 2, 1, loops) if one[0] == 1][:many]


class Order(unittest.TestCase):
    def check(self, one, other, expected):
        self.assertEqual(order(one, other), expected)
        first, last = expected
        self.assertEqual(order(other=one, one=other), (tuple(-sign for sign in first), -last))

    def test_alike(self):
        self.check(TURNS, deep_loops(25), ((), 0))
        for one, other in itertools.product(NOTHINGS, repeat=2):
            self.check(one, other, ((), 0))

    def test_always_the_same_sign(self):
        self.check((1, (text("b"), loop((0, 1), text("a")))), (1, (text("a"), loop((0, 5), text("z")))), ((), 1))
        self.check((1, (loop((0, 1), text("a")),)), (1, (loop((1, 1), text("a")),)), ((), -1))
        self.check((1, (text("a"),)), (1, ()), ((), 1))

    def test_same_at_first(self):
        self.check(TURNS, BLOCKS, ((0, 0), 1))
        self.check((1, (loop((0, 1), text("a")),)), (1, ()), ((0,), 1))
        self.check((1, ()), (1, (loop((0, 1), text("a")),)), ((0,), -1))

    def test_sign_changes(self):
        ahead = (1, (loop((0, 3), text("a")), text("b")))
        behind = (1, (text("aaa"), loop((0, 2), text("a")), text("b")))
        self.check(ahead, behind, ((1, 1, 1, 0), -1))
        # Without the b the shorter text stands ahead.
        self.check((1, ahead[1][:1]), (1, behind[1][:2]), ((-1, -1, -1, 0), 1))

    def test_zero_then_one_then_minus_one(self):
        """As in the document: alike at 0, behind at 1, and ahead from 2 on."""
        one = (1, (loop((0, 1), text("a")), loop((0, 2), text("b"))))
        other = (1, (loop((0, 1), text("ab")), loop((0, 1), text("a"))))
        self.check(one, other, ((0, 1), -1))

    def test_late_change(self):
        for letters in (10, 100, 296):
            one = (1, (loop((0, 3), text("a")), text("b")))
            other = (1, (text("a" * letters), loop((0, 2), text("a")), text("b")))
            self.check(one, other, ((1,) * letters + (0,), -1))

    def test_great_factors(self):
        one = (1, (loop((0, 10 ** 6), text("ab")), text("aa")))
        other = (1, (text("ab" * 100), loop((0, 10 ** 6 - 1), text("ab")), text("aa")))
        self.check(one, other, ((-1,) * 100 + (0,), 1))
        row = (1, ("ab",) * 13, (("ba", (1, 10 ** 6)), ("aab", (0, 10 ** 6))) * 6)
        self.check(row_parts(row), row_parts((1, row[1][:12] + ("b",), row[2])), ((), -1))

    def test_any_pairs(self):
        lengths = {}
        for one, other in one_count_pairs(141, 700):
            first, last = order(one, other)
            self.assertIs(type(first), tuple)
            lengths[len(first)] = True
            if first:
                self.assertNotEqual(first[-1], last)
            self.assertLessEqual(len(first), edge_of(one, other))
            for count in range(len(first) + 25):
                self.assertEqual(slow_sign(one, other, count), (first + (last,) * 25)[count])
            self.assertEqual(slow_sign(one, other, edge_of(one, other) + 1), last)
            self.assertEqual(last == 0, alike(one, other))
            self.check(one, other, (first, last))
        self.assertGreater(len(lengths), 2)

    def test_runs_of_different_speed(self):
        chance = random.Random(142)
        for _ in range(150):
            one = row_parts(any_row(chance, 1, 2, 2, "aab"))
            other = row_parts(any_row(chance, 1, 2, 2, "aab"))
            first, last = order(one, other)
            for count in range(len(first) + 30):
                self.assertEqual(slow_sign(one, other, count), (first + (last,) * 30)[count])


class Shared(unittest.TestCase):
    def check(self, one, other, expected):
        self.assertEqual(shared(one, other), expected)
        self.assertEqual(shared(other=one, one=other), expected)

    def test_alike(self):
        self.check(TURNS, deep_loops(25), ((), (0, 2)))
        self.check((1, (text("abc"), loop((1, 2), text("d")))), (1, (text("abcd"), loop((0, 1), text("dd")))),
                   ((), (4, 2)))
        for one, other in itertools.product(NOTHINGS, repeat=2):
            self.check(one, other, ((), (0, 0)))

    def test_some(self):
        self.check((1, (text("b"),)), (1, (text("a"),)), ((), (0, 0)))
        self.check((1, (loop((0, 1), text("a")),)), (1, (loop((1, 1), text("a")),)), ((), (0, 1)))
        self.check((1, (loop((0, 1), text("a")), text("b"))), (1, (loop((0, 2), text("a")), text("c"))), ((), (0, 1)))
        self.check(TURNS, BLOCKS, ((0, 2), (1, 0)))
        self.check((1, (text("ab"), loop((0, 1), text("a")))), (1, ()), ((), (0, 0)))

    def test_first_part_alike_then_not(self):
        self.check((1, (loop((0, 3), text("a")), text("b"))), (1, (text("aaa"), loop((0, 2), text("a")), text("b"))),
                   ((0, 3, 6, 10), (3, 2)))
        self.check((1, (loop((0, 3), text("a")),)), (1, (text("aaa"), loop((0, 2), text("a")))), ((0, 3, 6), (3, 2)))

    def test_late_change(self):
        one = (1, (loop((0, 3), text("a")),))
        other = (1, (text("a" * 297), loop((0, 2), text("a"))))
        self.check(one, other, (tuple(3 * count for count in range(297)), (297, 2)))

    def test_great_factors(self):
        one = (1, (loop((0, 10 ** 6), text("ab")), text("aa")))
        other = (1, (text("ab" * 100), loop((0, 10 ** 6 - 1), text("ab")), text("aa")))
        first = tuple(2 * 10 ** 6 * count + 1 for count in range(100)) + (2 * 10 ** 8 + 2,)
        self.check(one, other, (first, (2 * 100 + 1, 2 * (10 ** 6 - 1))))

    def test_any_pairs(self):
        lengths = {}
        for one, other in one_count_pairs(151, 700):
            first, form = shared(one, other)
            self.assertIs(type(first), tuple)
            self.assertIs(type(form), tuple)
            self.assertEqual(len(form), 2)
            lengths[len(first)] = True
            if first:
                self.assertNotEqual(first[-1], form[0] + form[1] * (len(first) - 1))
            counts = list(range(len(first) + 25)) + [edge_of(one, other) + 1]
            for count in counts:
                expected = first[count] if count < len(first) else form[0] + form[1] * count
                self.assertEqual(slow_common(slow_text(one[1], (count,)), slow_text(other[1], (count,))), expected)
            self.check(one, other, (first, form))
            if alike(one, other):
                self.assertEqual((first, form), ((), length(one)))
        self.assertGreater(len(lengths), 3)


class Promise(unittest.TestCase):
    def test_just_one_of_both_exists(self):
        """[3]: either moves lead from one to the other, or counts and a place part them, as their plain rows tell."""
        for one, other in pairs(161, 500, 3, 4):
            self.assertEqual(moves(one, other) is None, plain(one) != plain(other))
            self.assertEqual(parted_at(one, other) is None, plain(one) == plain(other))

    def test_arguments_are_not_changed_and_same_answer_again(self):
        for one, other in pairs(162, 30, 1):
            kept = copy.deepcopy((one, other))
            for ask in (alike, parted_at, least_parted, renamed, order, shared, moves):
                if ask not in (order, shared) or one[0] == 1:
                    answer = ask(one, other)
                    self.assertEqual(ask(*copy.deepcopy(kept)), answer)
                    self.assertFalse(holds_list(answer))
            self.assertEqual((one, other), kept)


if __name__ == "__main__":
    unittest.main()
