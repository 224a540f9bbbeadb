"""Texts told by words that are written again and again: what they have in common is found without writing them."""

import itertools
import random
import unittest

from everycount.runs import alike_letters, common_letters, run_letter, runs_at
from tests.samples import any_row, any_word, row_text, slow_common, small_counts


def runs_text(runs):
    return "".join((word * size)[:size] for word, size in runs)


class Runs(unittest.TestCase):
    def test_runs_of_rows(self):
        chance = random.Random(201)
        for _ in range(200):
            k = chance.randint(1, 3)
            row = any_row(chance, k, chance.randint(0, 3))
            for counts in small_counts(k, 1):
                runs = runs_at(row, counts)
                told = row_text(row, counts)
                self.assertEqual(runs_text(runs), told)
                self.assertTrue(all(word and size > 0 for word, size in runs))
                for place in range(len(told) + 3):
                    self.assertEqual(run_letter(runs, place), told[place:place + 1])

    def test_common_letters_of_two_words(self):
        """All words of up to four letters: they agree up to a place, or for ever."""
        words = ["".join(letters) for size in range(1, 5) for letters in itertools.product("ab", repeat=size)]
        for one, other in itertools.product(words, repeat=2):
            common = slow_common(one * 40, other * 40)
            for most in range(1, 12):
                self.assertEqual(alike_letters(one, other, most), min(most, common))

    def test_words_that_agree_as_long_as_they_can(self):
        for one, other, common in (("aba", "abaab", 6), ("ab", "aba", 3), ("abaab", "abaababa", 11)):
            self.assertEqual(alike_letters(one, other, 10 ** 30), common)
            self.assertEqual(common_letters([(one, 10 ** 30)], [(other, 10 ** 29)]), common)
        self.assertEqual(common_letters([("ab", 10 ** 30)], [("abab", 10 ** 29)]), 10 ** 29)

    def test_any_runs(self):
        chance = random.Random(202)
        sizes = []
        for _ in range(4000):
            text = any_word(chance, 1, 2) * 3
            both = []
            for _ in range(2):
                runs = [(text, chance.randint(0, 8))] if chance.random() < 0.5 else [(text[:2], chance.randint(0, 8))]
                runs += [(any_word(chance, 1, 3, "aab"), chance.randint(1, 9)) for _ in range(chance.randint(0, 4))]
                both.append([(word, size) for word, size in runs if size])
            expected = slow_common(runs_text(both[0]), runs_text(both[1]))
            kept = [list(runs) for runs in both]
            self.assertEqual(common_letters(*both), expected)
            self.assertEqual(both, kept)
            self.assertEqual(common_letters(both[0], both[0]), len(runs_text(both[0])))
            sizes.append(expected)
        self.assertGreater(max(sizes), 15)


if __name__ == "__main__":
    unittest.main()
