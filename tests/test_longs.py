"""[15]: single texts that are far too long to be written, their parts and their sums."""

import copy
import random
import unittest

from everycount.counting import letter_at
from everycount.errors import CountError, NoLetter, TooLong
from everycount.longs import Long
from everycount.programs import written
from tests.samples import (alike_program, any_part_of, any_program, any_word, deep_loops, loop, slow_common, slow_count, text)

GREAT = 10 ** 18
LONG_NUMBER = 10 ** 599 + 1

A = loop((0, 1), text("a"))
B = loop((0, 1), text("b"))
AB = loop((0, 1), text("ab"))
NOTHING = Long((0, ()), ())

# A text of 10**20 letters at these counts.
HUGE = (3, (loop((0, 30, 0, 0), text("ab")), text("c"), loop((0, 0, 3, 0), text("abcdefghij")),
            loop((8, 0, 0, 10), text("a")), text("b")))
HUGE_COUNTS = (GREAT, GREAT, GREAT - 1)


def word_of(told):
    """A Long whose letters are those of the string."""
    return Long((0, (text(told),)), ())


def comparisons(one, other):
    return (one == other, one != other, one < other, one <= other, one > other, one >= other)


class Check(unittest.TestCase):
    def check_error(self, kind, attribute, expected, function, *arguments):
        for wider in (kind, CountError, ValueError):
            with self.assertRaises(wider) as caught:
                function(*arguments)
            self.assertIs(type(caught.exception), kind)
            self.assertEqual(getattr(caught.exception, attribute), expected)
        self.assertEqual(kind.__bases__, (CountError,))

    def check_long(self, x, told, chance):
        """All that is told of a Long is what the string says."""
        self.assertIs(type(x), Long)
        self.assertEqual(x.size, len(told))
        self.assertIs(type(x.size), int)
        self.assertEqual(x.text(), told)
        for place in {0, len(told) - 1, len(told) // 2, chance.randint(-2, len(told) + 2)}:
            if 0 <= place < len(told):
                self.assertEqual(x.letter(place), told[place])
            else:
                self.check_error(NoLetter, "place", place, x.letter, place)
        for size in (1, 2, chance.randint(3, 12)):
            for word in (any_part_of(chance, told, size), any_word(chance, size, size)):
                self.assertEqual(x.count(word), slow_count(told, word))
                for begin in {0, len(told), chance.randint(0, len(told))}:
                    place = told.find(word, begin)
                    self.assertEqual(x.find(word, begin), None if place < 0 else place)


class Letters(Check):
    def test_size(self):
        self.assertEqual(Long((1, (A, text("b"))), (4,)).size, 5)
        self.assertEqual(Long(HUGE, HUGE_COUNTS).size, 10 ** 20)
        self.assertEqual(NOTHING.size, 0)
        self.assertEqual(Long((1, (A,)), (0,)).size, 0)
        self.assertIsInstance(Long.size, property)

    def test_letter(self):
        x = Long((1, (A, text("b"), AB)), (3,))
        self.assertEqual([x.letter(place) for place in range(10)], list("aaabababab"))
        self.assertEqual(x.letter(i=3), "b")
        for place in (-1, 10, 11, -10, LONG_NUMBER, -LONG_NUMBER):
            self.check_error(NoLetter, "place", place, x.letter, place)
        for place in (-1, 0, 1):
            self.check_error(NoLetter, "place", place, NOTHING.letter, place)

    def test_letters_far_away(self):
        x = Long(HUGE, HUGE_COUNTS)
        chance = random.Random(501)
        borders = [0, 60 * GREAT, 60 * GREAT + 1, 90 * GREAT + 1, x.size - 1, x.size]
        places = [border + step for border in borders for step in range(-3, 3)]
        places += [chance.randrange(x.size) for _ in range(200)]
        for place in places:
            if 0 <= place < x.size:
                self.assertEqual(x.letter(place), letter_at(HUGE, HUGE_COUNTS, place))
            else:
                self.check_error(NoLetter, "place", place, x.letter, place)

    def test_text(self):
        million = Long((1, (loop((0, 2), text("ab")),)), (250000,))
        self.assertEqual(million.text(), "ab" * 500000)
        more = million + word_of("c")
        self.check_error(TooLong, "length", 10 ** 6 + 1, more.text)
        self.assertEqual(more.part(1, 10 ** 6 + 1).text(), "b" + "ab" * 499999 + "c")
        self.check_error(TooLong, "length", 10 ** 20, Long(HUGE, HUGE_COUNTS).text)
        self.check_error(TooLong, "length", 10 ** 6 + 1, Long((1, (loop((1, 1), text("a")),)), (10 ** 6,)).text)
        self.assertEqual(NOTHING.text(), "")

    def test_arguments_by_name_and_not_changed(self):
        program = (1, (A, text("b")))
        kept = copy.deepcopy(program)
        self.assertEqual(Long(counts=(3,), program=program).text(), "aaab")
        self.assertEqual(program, kept)

    def test_deep_loops(self):
        self.assertEqual(Long(deep_loops(25), (4,)).text(), "abababab")

    def test_any_programs(self):
        chance = random.Random(502)
        for _ in range(300):
            program = any_program(chance)
            counts = tuple(chance.randint(0, 4) for _ in range(program[0]))
            self.check_long(Long(program, counts), written(program, counts), chance)


class PartsAndSums(Check):
    def test_part(self):
        x = Long((1, (A, text("b"), AB)), (3,))
        told = "aaabababab"
        for begin in range(11):
            for end in range(begin, 11):
                part = x.part(begin, end)
                self.assertIs(type(part), Long)
                self.assertEqual((part.size, part.text()), (end - begin, told[begin:end]))
        self.assertEqual(x.part(end=5, begin=2).text(), "aba")
        self.assertEqual(NOTHING.part(0, 0), NOTHING)

    def test_parts_of_parts(self):
        x = Long((1, (loop((0, 1), text("abcde")),)), (GREAT,))
        part = x.part(3, 5 * GREAT - 1)
        self.assertEqual(part.size, 5 * GREAT - 4)
        self.assertEqual(part.part(0, 7).text(), "deabcde")
        self.assertEqual(part.part(5 * GREAT - 10, 5 * GREAT - 4).text(), "deabcd")
        self.assertEqual(part.part(GREAT, 4 * GREAT).part(2 * GREAT, 2 * GREAT + 3).text(), "dea")
        self.assertEqual(part.part(7, 7).part(0, 0).text(), "")
        self.assertEqual(x.part(GREAT, GREAT).size, 0)

    def test_sums(self):
        x, y = Long((1, (AB,)), (2,)), word_of("c")
        self.assertEqual((x + y).text(), "ababc")
        self.assertEqual((y + x + x + y).text(), "cababababc")
        self.assertEqual((x + NOTHING + x).text(), "abababab")
        self.assertEqual((NOTHING + NOTHING).text(), "")
        self.assertIs(type(x + y), Long)
        great = Long((1, (AB,)), (GREAT,))
        self.assertEqual((great + y + great).size, 4 * GREAT + 1)
        self.assertEqual((great + y + great).part(2 * GREAT - 1, 2 * GREAT + 3).text(), "bcab")

    def test_objects_do_not_change(self):
        x, y = Long((1, (AB,)), (2,)), Long((1, (A,)), (3,))
        sums = x + y
        both = [x + y, y + x, x.part(1, 3) + y, sums.part(2, 6)]
        self.assertEqual([each.text() for each in both], ["ababaaa", "aaaabab", "baaaa", "abaa"])
        z = x
        z = z + y
        z += y
        self.assertEqual((x.text(), y.text(), z.text(), sums.text()), ("abab", "aaa", "ababaaaaaa", "ababaaa"))
        for _ in range(2):
            self.assertEqual((x.find("ba", 0), x.count("ab"), x.common(y), x == y), (1, 2, 1, False))
            self.assertEqual((x.size, x.letter(1), x.text()), (4, "b", "abab"))

    def test_two_hundred(self):
        """Sums and parts made of 200 programs' texts, each with its letters, words and places."""
        chance = random.Random(511)
        pieces, told = [], []
        for number in range(200):
            program = any_program(chance, 2) if number % 2 else (1, (AB, text("c" * (number % 3))))
            counts = tuple(chance.randint(0, 3) for _ in range(program[0]))
            pieces.append(Long(program, counts))
            told.append(written(program, counts))
        one = pieces[0]
        for piece in pieces[1:]:
            one = one + piece
        self.check_long(one, "".join(told), chance)
        other = pieces[-1]
        for piece in pieces[-2::-1]:
            other = piece + other
        self.assertEqual(comparisons(one, other), (True, False, False, True, False, True))
        self.assertEqual(one.common(other), one.size)
        for _ in range(30):
            begin = chance.randint(0, one.size)
            end = chance.randint(begin, one.size)
            self.check_long(one.part(begin, end), "".join(told)[begin:end], chance)

    def test_two_hundred_great_ones(self):
        x = Long((1, (loop((0, 1), text("ab")), text("c"))), (10 ** 17,))
        sums = x
        for _ in range(199):
            sums = sums + x
        self.assertEqual(sums.size, 200 * (2 * 10 ** 17 + 1))
        self.assertEqual(sums.count("c"), 200)
        self.assertEqual(sums.count("bca"), 199)
        self.assertEqual(sums.count("ab"), 200 * 10 ** 17)
        self.assertEqual(sums.find("bca", 150 * x.size), 151 * x.size - 2)
        self.assertEqual(sums.find("abca", 198 * x.size - 3), 198 * x.size - 3)
        self.assertEqual(sums.find("abca", 198 * x.size - 2), 199 * x.size - 3)
        self.assertIsNone(sums.find("abca", 199 * x.size - 2))
        self.assertEqual(sums.part(7 * x.size, 9 * x.size), x + x)
        self.assertEqual(sums.part(1, sums.size).common(sums), 0)
        self.assertEqual(sums.part(2, sums.size).common(sums), 2 * 10 ** 17 - 2)
        self.assertLess(sums, sums.part(2, sums.size))

    def test_any_sums_and_parts(self):
        chance = random.Random(512)
        for _ in range(300):
            known = []
            for _ in range(3):
                program = any_program(chance, 2)
                counts = tuple(chance.randint(0, 4) for _ in range(program[0]))
                known.append((Long(program, counts), written(program, counts)))
            for _ in range(6):
                x, told = chance.choice(known)
                y, other = chance.choice(known)
                if chance.random() < 0.4 and len(told) + len(other) < 300:
                    known.append((x + y, told + other))
                else:
                    begin = chance.randint(0, len(told))
                    end = chance.randint(begin, len(told))
                    known.append((x.part(begin, end), told[begin:end]))
            for x, told in known:
                self.check_long(x, told, chance)
                y, other = chance.choice(known)
                self.assertEqual(comparisons(x, y), comparisons(told, other))
                self.assertEqual(x.common(y), slow_common(told, other))


class Orders(Check):
    def check_order(self, one, other, expected):
        """expected is -1, 0 or 1, as one stands to other."""
        self.assertEqual(comparisons(one, other), comparisons(expected, 0))
        self.assertEqual(comparisons(other, one), comparisons(0, expected))
        for answer in comparisons(one, other):
            self.assertIn(answer, (True, False))
            self.assertIs(type(answer), bool)

    def test_words(self):
        words = ["", "a", "aa", "aaa", "aab", "ab", "aba", "abab", "abb", "b", "ba", "z", "za"]
        for number, one in enumerate(words):
            for place, other in enumerate(words):
                self.check_order(word_of(one), word_of(other), (number > place) - (number < place))
                self.assertEqual(word_of(one).common(word_of(other)), slow_common(one, other))

    def test_same_letters_made_otherwise(self):
        x = Long((1, (loop((0, 1), text("ab")), text("a"))), (GREAT,))
        ways = [Long((1, (text("a"), loop((0, 1), text("ba")))), (GREAT,)),
                Long((1, (loop((0, 2), text("ab")), text("a"))), (GREAT // 2,)),
                Long((1, (loop((0, 1), text("ab")),)), (GREAT,)) + word_of("a"),
                x.part(0, 12345) + x.part(12345, x.size),
                Long((1, (AB, text("abc"))), (GREAT,)).part(0, 2 * GREAT + 1),
                Long((2, (loop((0, 1, 1), text("ab")), text("a"))), (GREAT - 7, 7)),
                x.part(0, 0) + x + NOTHING,
                x.part(0, GREAT) + x.part(GREAT - GREAT % 2, 2 * GREAT + 1 - GREAT % 2)]
        for one in ways + [x]:
            for other in ways + [x]:
                self.check_order(one, other, 0)
                self.assertEqual(one.common(other), 2 * GREAT + 1)

    def test_one_is_the_beginning_of_the_other(self):
        x = Long((1, (AB,)), (GREAT,))
        for size in (0, 1, 2, GREAT - 1, GREAT, 2 * GREAT - 1):
            self.check_order(x.part(0, size), x, -1)
            self.assertEqual(x.part(0, size).common(x), size)
            self.assertEqual(x.common(y=x.part(0, size)), size)
        self.check_order(x, x + word_of("a"), -1)
        self.check_order(NOTHING, word_of("a"), -1)
        self.check_order(NOTHING, Long((1, (A,)), (0,)), 0)

    def test_texts_that_part_far_away(self):
        x = Long((1, (A, B, text("c"))), (GREAT,))
        y = Long((2, (loop((0, 1, 0), text("a")), loop((0, 0, 1), text("b")), text("c"))), (GREAT, GREAT - 1))
        self.assertEqual(x.common(y), 2 * GREAT - 1)
        self.check_order(x, y, -1)
        self.assertEqual((x.letter(2 * GREAT - 1), y.letter(2 * GREAT - 1)), ("b", "c"))
        z = Long((1, (loop((1, 1), text("a")), B, text("c"))), (GREAT,))
        self.assertEqual(x.common(z), GREAT)
        self.check_order(x, z, 1)
        self.assertEqual((x + x).common(x + z), x.size + GREAT)
        self.check_order(x + x, x + z, 1)

    def test_values_of_other_kinds(self):
        x = word_of("ab")
        for value in ("ab", "", None, True, 0, (), ("ab",), ["ab"], (0, (text("ab"),)), x.text, Long):
            self.assertIs(x == value, False)
            self.assertIs(x != value, True)
            self.assertIs(value == x, False)
            self.assertIs(value != x, True)

    def test_methods_are_defined_in_the_class(self):
        for name in ("__init__", "size", "letter", "part", "__add__", "__eq__", "__ne__", "__lt__", "__le__", "__gt__",
                     "__ge__", "common", "find", "count", "text"):
            self.assertIn(name, vars(Long))

    def test_written_otherwise(self):
        chance = random.Random(521)
        for _ in range(150):
            program = any_program(chance, 2)
            counts = tuple(chance.choice((0, 1, 3, GREAT)) for _ in range(program[0]))
            one, other = Long(program, counts), Long(alike_program(chance, program), counts)
            self.check_order(one, other, 0)
            self.assertEqual(one.common(other), one.size)


class Words(Check):
    def test_find_from_each_begin(self):
        chance = random.Random(531)
        for _ in range(60):
            program = any_program(chance, 2)
            counts = tuple(chance.randint(0, 4) for _ in range(program[0]))
            x, told = Long(program, counts), written(program, counts)
            x, told = x + x.part(0, x.size // 2), told + told[:len(told) // 2]
            word = any_part_of(chance, told, chance.randint(1, 6))
            for begin in range(len(told) + 1):
                place = told.find(word, begin)
                self.assertEqual(x.find(word, begin), None if place < 0 else place)

    def test_find_at_borders(self):
        x = Long((1, (A, text("b"), AB, text("c"))), (GREAT,))
        self.assertEqual(x.find("a", 0), 0)
        self.assertEqual(x.find("b", 0), GREAT)
        self.assertEqual(x.find("aab", 0), GREAT - 2)
        self.assertEqual(x.find("aab", GREAT - 2), GREAT - 2)
        self.assertIsNone(x.find("aab", GREAT - 1))
        self.assertEqual(x.find("aba", 0), GREAT - 1)
        self.assertEqual(x.find("bab", 7), GREAT)
        self.assertEqual(x.find("abc", 0), 3 * GREAT - 1)
        self.assertEqual(x.find("abc", 3 * GREAT - 1), 3 * GREAT - 1)
        self.assertIsNone(x.find("abc", 3 * GREAT))
        self.assertEqual(x.find("c", 3 * GREAT + 1), 3 * GREAT + 1)
        self.assertEqual(x.find("a" * 12, GREAT - 12), GREAT - 12)
        self.assertIsNone(x.find("a" * 12, GREAT - 11))
        self.assertEqual(x.find("a" * 11 + "b", 5), GREAT - 11)
        self.assertEqual(x.find("ab", GREAT + 2), GREAT + 3)

    def test_find_from_the_end_and_nowhere(self):
        x = Long((1, (AB,)), (GREAT,))
        for word in ("a", "b", "ab", "c", "a" * 12):
            self.assertIsNone(x.find(word, x.size))
            self.assertIsNone(NOTHING.find(word, 0))
        for word in ("aa", "bb", "c", "abc", "abababababaa"):
            self.assertIsNone(x.find(word, 0))
            self.assertIsNone(x.find(word, GREAT))
        self.assertEqual(x.find("b", x.size - 1), x.size - 1)
        self.assertIsNone(x.find("ba", x.size - 1))
        self.assertIsNone(word_of("ab").find("abababababab", 0))

    def test_find_at_borders_of_parts_and_sums(self):
        x = Long((1, (loop((0, 1), text("abc")),)), (GREAT,))
        sums = x.part(1, 3 * GREAT - 1) + word_of("d") + x.part(2, 3 * GREAT)
        self.assertEqual(sums.find("bd", 0), 3 * GREAT - 3)
        self.assertEqual(sums.find("abdcab", 0), 3 * GREAT - 4)
        self.assertEqual(sums.find("dc", 5), 3 * GREAT - 2)
        self.assertEqual(sums.find("abc", 0), 2)
        self.assertEqual(sums.find("abc", 3 * GREAT - 6), 3 * GREAT)
        self.assertIsNone(sums.find("bd", 3 * GREAT - 2))
        self.assertEqual(sums.find("bcabcabcabca", GREAT), GREAT + (-GREAT) % 3)
        self.assertEqual((x + x).find("ca", 3 * GREAT - 1), 3 * GREAT - 1)

    def test_turns_that_stand_far_behind(self):
        """In a run, the word is found in its first turn or over its end."""
        x = Long((1, (text("c"), loop((0, 1), text("aabab")), text("b"))), (GREAT,))
        self.assertEqual(x.find("ababb", 0), 5 * GREAT - 3)
        self.assertEqual(x.find("babb", 100), 5 * GREAT - 2)
        for begin in range(1, 30):
            self.assertEqual(x.find("abaab", begin), ("c" + "aabab" * 9).find("abaab", begin))
            self.assertEqual(x.find("abaab", begin + 5 * 10 ** 17), ("c" + "aabab" * 9).find("abaab", begin) + 5 * 10 ** 17)

    def test_count(self):
        x = Long((1, (A, text("b"), AB, text("c"))), (GREAT,))
        self.assertEqual(x.count("a"), 2 * GREAT)
        self.assertEqual(x.count("aa"), GREAT - 1)
        self.assertEqual(x.count("a" * 12), GREAT - 11)
        self.assertEqual(x.count("ab"), GREAT + 1)
        self.assertEqual(x.count("aba"), GREAT)
        self.assertEqual(x.count("abab"), GREAT)
        self.assertEqual(x.count("ababababababab"[:12]), GREAT - 4)
        self.assertEqual(x.count("babababababa"), GREAT - 5)
        self.assertEqual(x.count("bc"), 1)
        self.assertEqual(x.count("ca"), 0)
        self.assertEqual((x + x).count("ca"), 1)
        self.assertEqual(NOTHING.count("a"), 0)
        self.assertEqual(Long((1, (loop((0, 1), text("abaab")),)), (GREAT,)).count("aba"), 2 * GREAT - 1)
        self.assertEqual(Long((1, (A,)), (11,)).count("a" * 12), 0)
        self.assertEqual(Long((1, (A,)), (12,)).count("a" * 12), 1)

    def test_all_short_sizes_of_runs(self):
        """Runs of each size around that from which on letters are left out, with letters ahead and behind."""
        chance = random.Random(532)
        for word in ("a", "ab", "aab", "abcab", "abcabcabcaba"):
            turns = Long((1, (loop((0, 1), text(word)),)), (40,))
            for size in range(1, 40):
                ahead, behind = any_word(chance, 0, 2), any_word(chance, 0, 3)
                told = ahead + (word * 40)[:size] + behind
                x = word_of(ahead) + turns.part(0, size) + word_of(behind)
                for length in (1, 2, 3, 7, 12):
                    wanted = any_part_of(chance, told, length)
                    self.assertEqual(x.count(wanted), slow_count(told, wanted))
                    place = told.find(wanted)
                    self.assertEqual(x.find(wanted, 0), None if place < 0 else place)


if __name__ == "__main__":
    unittest.main()
