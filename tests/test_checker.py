"""[10], [12]: the check of counts and a place, and where moves lead."""

import copy
import random
import unittest
from unittest import mock

from everycount.checker import moved, parting
from everycount.errors import CountError, NoMove, NoPlace
from everycount.moving import make_moves
from everycount.rows import flat, plain
from tests.samples import (any_move, any_pair, any_row, holds_list, loop, programs, row_parts, row_text, slow_move,
                           slow_text, small_counts, told_moves, text, undoing)

GREAT = 10 ** 18
LONG_NUMBER = 10 ** 599 + 1

DEEP = ()
for _ in range(3000):
    DEEP = (DEEP, 0)

# Any values, none of which is a pair of one count and a place, or a tuple of moves that is not empty.
VALUES = [None, True, False, 0, 1, -1, LONG_NUMBER, "", "shape", "ab", "left", [], [()], [0, 0], (1,), (0, 0), ("", ""),
          (None, None), (True, False), ((), ()), ((0,),), (((0,), 0),), [("left", 0)], (["left", 0],), ([], []), DEEP,
          ("left", 0), ("left",), (0,) * 2000, [None] * 2000, (((((((),),),),),),), ((("left", 0),),), ("", (0,))]

A = (1, (loop((0, 1), text("a")), text("b")))
AA = (1, (loop((0, 2), text("a")), text("b")))


def refusal(one, other, value):
    """The word of NoPlace for the value, or True."""
    try:
        return parting(one, other, value)
    except NoPlace as error:
        return error.word


def slow_refused(row, move):
    """Whether a tuple is no move of the row, told by the kinds of its parts and by a slow reading of [12]."""
    if len(move) < 2 or type(move[1]) is not int or not 0 <= move[1] < len(row[2]):
        return True
    if move[0] not in ("root", "whole", "part"):
        return len(move) != 2 or move[0] not in ("left", "right", "out", "in", "join") or slow_move(row, move) is None
    if len(move) != 3 or move[0] == "part" and (type(move[2]) is not tuple or len(move[2]) != row[0] + 1):
        return True
    numbers = move[2] if move[0] == "part" else (move[2],)
    if not all(type(number) is int and number >= 0 for number in numbers) or move[0] != "part" and move[2] < 2:
        return True
    return slow_move(row, move) is None


def slow_refusal(one, other, counts, place):
    """The same, for counts and a place of the right shape, from the texts themselves."""
    first, second = slow_text(one[1], counts), slow_text(other[1], counts)
    if first[:place] != second[:place] or place > min(len(first), len(second)):
        return "ahead"
    if first[place:place + 1] == second[place:place + 1]:
        return "place"
    return True


class Parting(unittest.TestCase):
    def check(self, one, other, value, expected):
        for first, second in ((one, other), (other, one)):
            answer = refusal(first, second, value)
            self.assertEqual(answer, expected)
            self.assertIs(type(answer), type(expected))

    def test_true(self):
        self.check(A, AA, ((1,), 1), True)
        self.check(A, AA, ((5,), 5), True)
        self.assertIs(parting(value=((5,), 5), other=AA, one=A), True)
        self.check((0, (text("ab"),)), (0, (text("ac"),)), ((), 1), True)
        self.check((0, (text("ab"),)), (0, (text("abc"),)), ((), 2), True)
        self.check((0, ()), (0, (text("a"),)), ((), 0), True)

    def test_place(self):
        self.check(A, AA, ((5,), 4), "place")
        self.check(A, AA, ((5,), 0), "place")
        self.check(A, AA, ((0,), 0), "place")
        self.check(A, AA, ((0,), 1), "place")
        self.check((0, ()), (0, (text(""),)), ((), 0), "place")
        self.check(A, A, ((7,), 8), "place")

    def test_ahead(self):
        self.check(A, AA, ((5,), 6), "ahead")
        self.check(A, AA, ((5,), 7), "ahead")
        self.check(A, AA, ((5,), LONG_NUMBER), "ahead")
        self.check(A, AA, ((0,), 2), "ahead")
        self.check((0, ()), (0, (text(""),)), ((), 1), "ahead")
        self.check((0, (text("ab"),)), (0, (text("abc"),)), ((), 3), "ahead")
        self.check((0, (text("ab"),)), (0, (text("abcd"),)), ((), 3), "ahead")

    def test_same_letter_behind_the_place_where_they_part(self):
        one, other = (1, (text("axb"), loop((0, 1), text("c")))), (1, (text("ayb"), loop((0, 1), text("c"))))
        for place, expected in enumerate(["place", True, "ahead", "ahead", "ahead"]):
            self.check(one, other, ((2,), place), expected)

    def test_one_text_is_the_beginning_of_the_other(self):
        one, other = (1, (loop((0, 1), text("ab")),)), (1, (loop((0, 1), text("ab")), text("a")))
        self.check(one, other, ((3,), 6), True)
        self.check(one, other, ((3,), 5), "place")
        self.check(one, other, ((3,), 7), "ahead")
        self.check(one, other, ((GREAT,), 2 * GREAT), True)

    def test_great_counts(self):
        other = (1, (loop((0, 1), text("a")), text("c")))
        self.check(A, other, ((GREAT,), GREAT), True)
        self.check(A, other, ((GREAT,), GREAT - 1), "place")
        self.check(A, other, ((GREAT,), GREAT + 1), "ahead")
        self.check(A, other, ((GREAT + 1,), GREAT + 1), "shape")
        self.check(A, other, ((LONG_NUMBER,), GREAT), "shape")
        self.check(A, AA, ((GREAT,), GREAT), True)
        self.check(A, AA, ((GREAT,), 2 * GREAT), "ahead")

    def test_great_counts_and_factors(self):
        one = (3, (loop((5, 10 ** 6, 0, 1), text("abc")), text("ab"), loop((0, 0, 10 ** 6, 0), text("ca")), text("b")))
        other = (3, (text("abc"), loop((4, 10 ** 6, 0, 1), text("abc")), loop((0, 0, 10 ** 6, 0), text("abac")),
                     text("abb")))
        size = 3 * (5 + 10 ** 6 * GREAT + GREAT)
        self.check(one, other, ((GREAT, GREAT, GREAT), size + 2), True)
        self.check(one, other, ((GREAT, GREAT, GREAT), size + 1), "place")
        self.check(one, other, ((GREAT, GREAT, GREAT), size + 3), "ahead")
        self.check(one, other, ((GREAT, 0, GREAT), size + 2), "place")
        self.check(one, other, ((GREAT, 0, GREAT), size + 3), "place")
        self.check(one, other, ((GREAT, 0, GREAT), size + 4), "ahead")
        long = (3, (loop((0, 10 ** 6, 10 ** 6, 10 ** 6), text("ab")),))
        self.check(long, (3, long[1] + (text("a"),)), ((GREAT,) * 3, 6 * 10 ** 24), True)

    def test_shape(self):
        for value in VALUES:
            self.check(A, AA, value, "shape")
        for value in [((1,), 1, 1), ((1,),), [(1,), 1], ([1], 1), ((1, 1), 1), ((), 1), (1, 1), (1, (1,)), ((1,), (1,)),
                      ((1,), [1]), ((1,), -1), ((-1,), 1), ((-GREAT,), 1), ((1,), True), ((1,), False), ((True,), 1),
                      ((False,), 1), ((1,), None), ((None,), 1), ((1,), "1"), (("1",), 1), ("1", 1), (((1,),), 1),
                      (([1],), 1), ((GREAT + 1,), 1), ((1,), ()), (None, 1), (True, 1), (((1,), 1),), (DEEP, 1), ((1,), DEEP),
                      ((DEEP,), 1), ((1,) * 2000, 1)]:
            self.check(A, AA, value, "shape")

    def test_shape_for_other_numbers_of_counts(self):
        for k in range(4):
            one = (k, (text("a"),))
            for many in range(6):
                for other in ((k, (text("b"),)), one):
                    expected = "shape" if many != k else True if other != one else "place"
                    self.check(one, other, ((0,) * many, 0), expected)
            for number in range(k):
                for count in (-1, True, None, GREAT + 1, "0", (0,), [0]):
                    counts = (0,) * number + (count,) + (0,) * (k - number - 1)
                    self.check(one, (k, (text("b"),)), (counts, 0), "shape")
                    self.check(one, (k, (text("b"),)), (counts, 5), "shape")

    def test_first_word_that_holds(self):
        self.check(A, AA, ((-1,), 7), "shape")
        self.check(A, AA, ((GREAT + 1,), 0), "shape")
        # At a place behind the end of both the letters are the same, but the texts have ended ahead of it.
        self.check(A, A, ((2,), 4), "ahead")

    def test_error(self):
        for value, word in ((None, "shape"), (((5,), 6), "ahead"), (((5,), 4), "place")):
            for kind in (NoPlace, CountError, ValueError):
                with self.assertRaises(kind) as caught:
                    parting(A, AA, value)
                self.assertEqual(caught.exception.word, word)

    def test_any_pairs(self):
        chance = random.Random(171)
        seen = {True: 0, "place": 0, "ahead": 0}
        for _ in range(400):
            one, other = any_pair(chance)
            for counts in small_counts(one[0], 3)[:6]:
                size = max(len(slow_text(one[1], counts)), len(slow_text(other[1], counts)))
                for place in range(min(size + 3, 25)):
                    expected = slow_refusal(one, other, counts, place)
                    seen[expected] += 1
                    self.check(one, other, (counts, place), expected)
        self.assertGreater(min(seen.values()), 300)

    def test_arguments_are_not_changed_and_same_answer_again(self):
        value = [[1], 1]
        for _ in range(2):
            self.assertEqual(refusal(A, AA, value), "shape")
            self.assertEqual(refusal(A, AA, (value[0], 1)), "shape")
            self.assertIs(refusal(A, AA, (tuple(value[0]), 1)), True)
        self.assertEqual(value, [[1], 1])


# A row to which each kind of move can be made somewhere.
ROW = (2, ("ab", "cbc", "", "a"), (("ab", (2, 4, 0)), ("bc", (1, 0, 1)), ("bc", (0, 3, 1))))


class Moved(unittest.TestCase):
    def check(self, row, move, expected):
        """The move leads to the row expected, or cannot be made if that is None; the document's words say so, too."""
        self.assertEqual(slow_move(row, move), expected)
        if expected is None:
            self.check_refused(row, (move,), 0)
        else:
            self.assertEqual(moved(row, (move,)), expected)
            self.assertEqual(moved(row, (move, undoing(row, move))), row)

    def check_refused(self, row, told, number):
        with self.assertRaises(NoMove) as caught:
            moved(row, told)
        self.assertEqual(caught.exception.number, number)

    def test_no_moves(self):
        for row in (ROW, (0, ("",), ()), (0, ("abc",), ()), (3, ("",), ()), (1, ("", ""), (("abab", (999, 10 ** 6)),))):
            self.assertEqual(moved(row, ()), row)

    def test_left(self):
        self.check((1, ("cab", "d"), (("ab", (1, 1)),)), ("left", 0), (1, ("ca", "bd"), (("ba", (1, 1)),)))
        self.check((1, ("a", ""), (("a", (0, 1)),)), ("left", 0), (1, ("", "a"), (("a", (0, 1)),)))
        self.check((1, ("b", "a"), (("abb", (0, 1)),)), ("left", 0), (1, ("", "ba"), (("bab", (0, 1)),)))
        self.check((1, ("b", "a"), (("abab", (0, 1)),)), ("left", 0), (1, ("", "ba"), (("baba", (0, 1)),)))
        self.check((1, ("a", "", ""), (("b", (0, 1)), ("a", (0, 1)))), ("left", 1), None)
        self.check((1, ("", "a"), (("a", (0, 1)),)), ("left", 0), None)
        self.check((1, ("b", "a"), (("a", (0, 1)),)), ("left", 0), None)
        self.check((1, ("a", "a"), (("ab", (0, 1)),)), ("left", 0), None)

    def test_right(self):
        self.check((1, ("c", "abd"), (("ab", (1, 1)),)), ("right", 0), (1, ("ca", "bd"), (("ba", (1, 1)),)))
        self.check((1, ("", "a"), (("a", (0, 1)),)), ("right", 0), (1, ("a", ""), (("a", (0, 1)),)))
        self.check((1, ("", "ab"), (("aab", (0, 1)),)), ("right", 0), (1, ("a", "b"), (("aba", (0, 1)),)))
        self.check((1, ("", "a"), (("abab", (0, 1)),)), ("right", 0), (1, ("a", ""), (("baba", (0, 1)),)))
        self.check((1, ("", "", "b"), (("b", (0, 1)), ("a", (0, 1)))), ("right", 0), None)
        self.check((1, ("a", ""), (("a", (0, 1)),)), ("right", 0), None)
        self.check((1, ("a", "b"), (("a", (0, 1)),)), ("right", 0), None)
        self.check((1, ("a", "b"), (("ab", (0, 1)),)), ("right", 0), None)

    def test_root(self):
        row = (2, ("", "b"), (("abababababab", (2, 0, 1)),))
        for n, word in ((2, "ababab"), (3, "abab"), (6, "ab")):
            self.check(row, ("root", 0, n), (2, ("", "b"), ((word, (2 * n, 0, n)),)))
        for n in (4, 5, 7, 12, 13, LONG_NUMBER):
            self.check(row, ("root", 0, n), None)
        self.check((1, ("", ""), (("aaaa", (0, 1)),)), ("root", 0, 2), (1, ("", ""), (("aa", (0, 2)),)))
        self.check((1, ("", ""), (("aaaa", (0, 1)),)), ("root", 0, 4), (1, ("", ""), (("a", (0, 4)),)))
        self.check((1, ("", ""), (("aab", (0, 1)),)), ("root", 0, 3), None)
        self.check((1, ("", ""), (("aba", (0, 1)),)), ("root", 0, 2), None)
        self.check((1, ("", ""), (("a", (0, 1)),)), ("root", 0, 2), None)

    def test_whole(self):
        row = (2, ("", "b"), (("ab", (6, 12, 0)),))
        for n in (2, 3, 6):
            self.check(row, ("whole", 0, n), (2, ("", "b"), (("ab" * n, (6 // n, 12 // n, 0)),)))
        for n in (4, 5, 12, 24, LONG_NUMBER):
            self.check(row, ("whole", 0, n), None)
        self.check((1, ("", ""), (("a", (1, 2)),)), ("whole", 0, 2), None)
        self.check((1, ("", ""), (("a", (2, 1)),)), ("whole", 0, 2), None)
        self.check((1, ("", ""), (("aa", (0, 2)),)), ("whole", 0, 2), (1, ("", ""), (("aaaa", (0, 1)),)))

    def test_out(self):
        self.check((1, ("c", "d"), (("ab", (2, 1)),)), ("out", 0), (1, ("c", "abd"), (("ab", (1, 1)),)))
        self.check((1, ("c", "d"), (("abab", (1, 1)),)), ("out", 0), (1, ("c", "ababd"), (("abab", (0, 1)),)))
        self.check((1, ("c", "abd"), (("ab", (0, 1)),)), ("out", 0), None)

    def test_in(self):
        self.check((1, ("c", "abd"), (("ab", (0, 1)),)), ("in", 0), (1, ("c", "d"), (("ab", (1, 1)),)))
        self.check((1, ("c", "abab"), (("abab", (5, 1)),)), ("in", 0), (1, ("c", ""), (("abab", (6, 1)),)))
        self.check((1, ("ab", "d"), (("ab", (0, 1)),)), ("in", 0), None)
        self.check((1, ("ab", ""), (("ab", (0, 1)),)), ("in", 0), None)
        self.check((1, ("", "ab"), (("abab", (0, 1)),)), ("in", 0), None)
        self.check((1, ("", "aba"), (("abab", (0, 1)),)), ("in", 0), None)
        self.check((1, ("", "a", "b"), (("ab", (0, 1)), ("b", (0, 1)))), ("in", 0), None)

    def test_join(self):
        self.check((2, ("c", "", "d"), (("ab", (1, 1, 0)), ("ab", (2, 0, 3)))), ("join", 0),
                   (2, ("c", "d"), (("ab", (3, 1, 3)),)))
        self.check((1, ("", "", "x", ""), (("aa", (0, 1)), ("aa", (0, 1)), ("b", (1, 1)))), ("join", 0),
                   (1, ("", "x", ""), (("aa", (0, 2)), ("b", (1, 1)))))
        row = (2, ("", "", "", ""), (("a", (0, 1, 0)), ("a", (1, 0, 1)), ("a", (2, 2, 0))))
        self.check(row, ("join", 0), (2, ("", "", ""), (("a", (1, 1, 1)), ("a", (2, 2, 0)))))
        self.check(row, ("join", 1), (2, ("", "", ""), (("a", (0, 1, 0)), ("a", (3, 2, 1)))))
        self.check(row, ("join", 2), None)
        self.check((1, ("", "a", ""), (("a", (0, 1)), ("a", (0, 1)))), ("join", 0), None)
        self.check((1, ("", "", ""), (("a", (0, 1)), ("b", (0, 1)))), ("join", 0), None)
        self.check((1, ("", "", ""), (("ab", (0, 1)), ("ba", (0, 1)))), ("join", 0), None)
        self.check((1, ("", "", ""), (("a", (0, 1)), ("aa", (0, 1)))), ("join", 0), None)
        self.check((1, ("", ""), (("a", (0, 1)),)), ("join", 0), None)

    def test_part(self):
        row = (2, ("c", "d"), (("ab", (3, 1, 2)),))
        for form, left in (((0, 1, 0), (3, 0, 2)), ((3, 0, 2), (0, 1, 0)), ((1, 1, 1), (2, 0, 1)), ((3, 1, 1), (0, 0, 1))):
            self.check(row, ("part", 0, form), (2, ("c", "", "d"), (("ab", form), ("ab", left))))
        for form in ((3, 1, 2), (0, 1, 2), (0, 0, 0), (3, 0, 0), (4, 1, 0), (0, 2, 0), (0, 0, 3), (0, 0, LONG_NUMBER)):
            self.check(row, ("part", 0, form), None)
        self.check((1, ("", ""), (("a", (0, 1)),)), ("part", 0, (0, 1)), None)
        self.check((1, ("", "", ""), (("a", (0, 1)), ("b", (0, 5)))), ("part", 1, (0, 2)),
                   (1, ("", "", "", ""), (("a", (0, 1)), ("b", (0, 2)), ("b", (0, 3)))))

    def test_values_that_are_no_tuple(self):
        for value in VALUES:
            if not isinstance(value, tuple):
                self.check_refused(ROW, value, -1)
                self.check_refused((0, ("",), ()), value, -1)
        self.check_refused(ROW, [], -1)
        self.check_refused(ROW, [("out", 0)], -1)

    def test_values_that_are_no_moves(self):
        for value in VALUES:
            if isinstance(value, tuple) and value:
                self.check_refused(ROW, value, 0)

    def wrong_moves(self):
        wrong = [value for value in VALUES if value != ("left", 0)]
        for kind in ("left", "right", "out", "in", "join"):
            wrong += [(kind,), (kind, 0, 2), (kind, 0, ()), (kind, (0,)), [kind, 0], (0, kind), kind, (kind, 0, (0, 1, 0))]
        for kind in ("root", "whole"):
            wrong += [(kind,), (kind, 0), (kind, 0, 2, 2), (kind, 0, (2,)), [kind, 0, 2], (kind, 2, 0), (kind, (0, 2)),
                      (2, 0, kind)]
            wrong += [(kind, 0, n) for n in (0, 1, -1, -2, True, False, None, "2", (), [2], (0, 2, 0), LONG_NUMBER)]
        wrong += [("part",), ("part", 0), ("part", 0, (0, 2, 0), ()), ["part", 0, (0, 2, 0)], ("part", (0, 2, 0), 0)]
        wrong += [("part", 0, form) for form in (
            None, True, 2, "", (), [], [0, 2, 0], (0, 2), (0, 2, 0, 0), (0, True, 0), (True, 2, 0), (False, 2, 0),
            (-1, 2, 0), (0, -2, 0), (0, 2, -1), (0, None, 0), (0, "2", 0), (0, (2,), 0), ((0, 2, 0),), DEEP)]
        for kind, more in (("left", ()), ("right", ()), ("out", ()), ("in", ()), ("join", ()), ("root", (2,)),
                           ("whole", (2,)), ("part", ((0, 2, 0),))):
            wrong += [(kind, j) + more for j in (-1, -3, 3, 4, LONG_NUMBER, True, False, None, "0", (0,), [0], DEEP)]
        wrong += [("Left", 0), ("", 0), ("moved", 0), ("l", 0), (None, 0), (True, 0), (0, 0), (("left",), 0), (["left"], 0),
                  ("left ", 0), ("LEFT", 0), ("roots", 0, 2), ([], 0, 2), (DEEP, 0, 2)]
        return wrong

    def test_wrong_moves_of_each_kind(self):
        """Moves of which the right ones (("left", 0), ("out", 0), ("whole", 0, 2), ..) can be made of the row."""
        row = (2, ("ab", "", "abab", "a"), (("abab", (2, 4, 0)), ("abab", (2, 4, 0)), ("ba", (0, 0, 1))))
        for move in (("left", 0), ("right", 1), ("out", 0), ("in", 1), ("join", 0), ("root", 0, 2), ("whole", 0, 2),
                     ("part", 0, (0, 2, 0))):
            self.check(row, move, slow_move(row, move))
            self.assertIsNotNone(slow_move(row, move))
        for move in self.wrong_moves():
            self.check_refused(row, (move,), 0)
            self.check_refused(row, (("out", 0), ("in", 0), move, move, ("out", 0)), 2)

    def test_first_wrong_move_is_told(self):
        there = (("out", 0), ("in", 0))
        self.check_refused(ROW, there * 5 + (("in", 1),) + there, 10)
        self.check_refused(ROW, there * 5 + (None, ("in", 1)), 10)
        self.check_refused(ROW, (("out", 0), ("out", 0), ("out", 0), None), 2)
        self.check_refused(ROW, there * 9999 + (("out", 0), "out"), 19999)

    def test_each_move_is_one_of_the_row_by_then(self):
        row = (1, ("", "b", "b"), (("b", (0, 1)), ("b", (0, 1))))
        self.check_refused(row, (("join", 0),), 0)
        self.assertEqual(moved(row, (("right", 0), ("join", 0), ("right", 0))), (1, ("bb", ""), (("b", (0, 2)),)))
        self.check_refused(row, (("right", 0), ("join", 0), ("right", 1)), 2)

    def test_loops_keep_their_numbers(self):
        """Join and part give the loops behind them other numbers."""
        row = (1, ("", "", "", ""), (("a", (0, 3)), ("b", (1, 1)), ("c", (1, 1))))
        self.assertEqual(moved(row, (("part", 0, (0, 1)), ("part", 1, (0, 1)), ("out", 3), ("out", 4))),
                         (1, ("", "", "", "", "b", "c"),
                          (("a", (0, 1)), ("a", (0, 1)), ("a", (0, 1)), ("b", (0, 1)), ("c", (0, 1)))))
        self.assertEqual(moved(row, (("part", 0, (0, 1)), ("part", 1, (0, 1)), ("join", 0), ("join", 0), ("out", 1))),
                         (1, ("", "", "b", ""), (("a", (0, 3)), ("b", (0, 1)), ("c", (1, 1)))))

    def test_any_rows_and_moves(self):
        """What each move of a row leads to is what a slow reading of [12] says."""
        chance = random.Random(181)
        seen = {}
        for _ in range(500):
            k = chance.randint(1, 3)
            row = any_row(chance, k, chance.randint(1, 4), 4, "aab")
            for _ in range(10):
                for move in told_moves(chance, row):
                    self.check(row, move, slow_move(row, move))
                    seen[move[0], slow_move(row, move) is None] = True
                found = any_move(chance, row)
                if found is None:
                    break
                row = found[1]
        self.assertEqual(len(seen), 16)

    def test_many_any_moves(self):
        chance = random.Random(182)
        for program in programs(183, 150):
            for start in (flat(program), plain(program)):
                row, told, back = start, [], []
                for _ in range(40):
                    found = any_move(chance, row)
                    if found is None:
                        break
                    told.append(found[0])
                    back.append(undoing(row, found[0]))
                    row = found[1]
                self.assertEqual(moved(start, tuple(told)), row)
                self.assertEqual(moved(row, tuple(back[::-1])), start)
                self.assertEqual(moved(start, tuple(told + back[::-1])), start)
                for number, move in enumerate(told):
                    self.assertEqual(moved(moved(start, tuple(told[:number])), tuple(told[number:])), row)
                for counts in small_counts(program[0], 1):
                    self.assertEqual(row_text(row, counts), row_text(start, counts))
                self.assertFalse(holds_list(moved(start, tuple(told))))

    def test_thousands_of_moves_there_and_back(self):
        row = (2, ("ab" * 50, "", "ba" * 50), (("ab", (2, 4, 0)), ("ab", (1, 0, 6))))
        self.assertEqual(moved(row, ((("left", 0),) * 100 + (("right", 0),) * 100) * 100), row)
        round_trip = (("part", 0, (1, 3, 0)), ("join", 0), ("out", 0), ("out", 0), ("whole", 0, 4), ("root", 0, 4), ("in", 0),
                      ("in", 0))
        self.assertEqual(moved(row, round_trip * 2500), row)
        self.check_refused(row, round_trip * 2499 + (("left", 1),), 2499 * 8)

    def rounds(self):
        """Rows and moves there and back of several kinds, short ones and long ones, each of which can be made."""
        row = (2, ("ab" * 50, "", "ba" * 50), (("ab", (2, 4, 0)), ("ab", (1, 0, 6))))
        other = (2, ("ab" * 50, "", "ab" * 50), row[2])
        for start, kind, back, j in ((row, "left", "right", 0), (other, "right", "left", 1), (row, "out", "in", 0),
                                     (row, "out", "in", 1), (other, "in", "out", 1)):
            yield start, ((kind, j), (back, j))
        yield row, (("whole", 0, 2), ("root", 0, 2))
        yield (1, ("", ""), (("abab", (3, 1)),)), (("root", 0, 2), ("whole", 0, 2))
        yield row, (("join", 0), ("part", 0, (2, 4, 0)))
        yield row, (("part", 0, (1, 1, 0)), ("join", 0))
        yield row, (("part", 1, (1, 0, 1)), ("join", 1))
        yield row, (("out", 0), ("out", 0), ("in", 0), ("left", 0), ("right", 0), ("in", 0), ("out", 1), ("in", 1))
        yield row, (("join", 0), ("out", 0), ("left", 0), ("right", 0), ("in", 0), ("part", 0, (2, 4, 0)), ("whole", 0, 2),
                    ("left", 0), ("right", 0), ("root", 0, 2))
        yield row, (("left", 0),) * 100 + (("right", 0),) * 100
        yield row, (("left", 0),) * 7 + (("right", 0),) * 7 + (("out", 0), ("in", 0))

    def wrong_ends(self, row):
        """Moves that cannot be made of the row, also such as are equal to others that can be made, to Python."""
        yield from (("join", 1), ("left", 2), ("out", -1), ("root", 0, 3), ("part", 0, (3, 0, 0)), None, ["out", 0], ("out",),
                    ("whole", 0, 1), ("turn", 0), ("out", 0, 2), ("part", 0, [1, 1, 0]), "left")
        for j, truth in ((0, False), (1, True)):
            yield from ((kind, truth) for kind in ("left", "right", "out", "in", "join"))
            yield from ((kind, truth, 2) for kind in ("root", "whole"))
            yield ("part", truth, (1, 1, 0))
        yield from (("part", 0, form) for form in ((True, 1, 0), (1, True, 0), (1, 1, False)))

    def test_thousands_of_moves_and_one_that_cannot_be_made(self):
        for row, told in self.rounds():
            for many in (5200, 17200):
                moves = (told * (many // len(told) + 1))[:many // len(told) * len(told)]
                self.assertEqual(moved(row, moves), row)
                self.check_refused(row, moves + (("left", 9),), len(moves))
                self.check_refused(row, moves + (("left", 9),) + told, len(moves))
            for wrong in self.wrong_ends(row):
                if not isinstance(wrong, tuple) or slow_refused(row, wrong):
                    self.check_refused(row, told * 400 + (wrong,) + told * 400, 400 * len(told))

    def test_calls_that_took_too_long(self):
        for word in ("a", "b", "ab", "aab", "abc"):
            row = (1, ("", ""), ((word, (1, 1)),))
            there = (("out", 0), ("in", 0)) * 8599
            self.assertEqual(moved(row, there), row)
            self.check_refused(row, there + (("join", 0),), 17198)
            self.check_refused(row, there + (("out", 0), ("out", 0)), 17199)
            self.assertEqual(moved(row, there + (("out", 0),)), (1, ("", word), ((word, (0, 1)),)))

    def test_truth_in_the_place_of_a_number(self):
        """Among moves told again and again, a move with True or False is found wherever it stands."""
        row = (2, ("", "", ""), (("ab", (1, 3, 0)), ("ab", (1, 0, 6))))
        told = (("out", 1), ("in", 1), ("part", 0, (1, 1, 0)), ("join", 0), ("whole", 1, 3), ("root", 1, 3)) * 1000
        row = (2, ("", "", ""), (("ab", (1, 3, 0)), ("ab", (3, 0, 6))))
        self.assertEqual(moved(row, told), row)
        wrong = {0: ("out", True), 1: ("in", True), 2: ("part", 0, (True, 1, 0)), 3: ("join", False), 4: ("whole", True, 3),
                 5: ("root", True, 3)}
        others = {2: [("part", False, (1, 1, 0)), ("part", 0, (1, True, 0)), ("part", 0, (1, 1, False))]}
        chance = random.Random(184)
        for place in list(range(14)) + [chance.randrange(6000) for _ in range(120)]:
            for move in [wrong[place % 6]] + others.get(place % 6, []):
                self.assertEqual(move, told[place])
                self.check_refused(row, told[:place] + (move,) + told[place + 1:], place)
                self.check_refused(row, told[:place] + (move,), place)

    def test_moves_told_again_from_another_row(self):
        """The same moves, told again, lead on where they have not led back."""
        row = (1, ("", ""), (("ab", (5000, 1)),))
        self.assertEqual(moved(row, (("out", 0),) * 4999), (1, ("", "ab" * 4999), (("ab", (1, 1)),)))
        self.check_refused(row, (("out", 0),) * 5002, 5000)
        self.assertEqual(moved(row, (("out", 0), ("out", 0), ("in", 0)) * 4000), (1, ("", "ab" * 4000), (("ab", (1000, 1)),)))
        self.check_refused(row, (("out", 0), ("out", 0), ("in", 0)) * 5001, 3 * 4999 + 1)
        # Here all texts are what they have been, but not the loop.
        row = (1, ("ab", "ab"), (("ab", (0, 4 ** 9)),))
        for pairs in (58, 59, 118, 119):
            told = (("left", 0), ("right", 0)) * pairs + (("whole", 0, 2),) * 2
            for many in range(10):
                self.assertEqual(moved(row, told * many), (1, ("ab", "ab"), (("ab" * 4 ** many, (0, 4 ** (9 - many))),)))
            self.check_refused(row, told * 10, 10 * len(told) - 2)
        row = (1, ("", ""), (("ab", (5000, 1)),))
        there = (("out", 0),) * 300 + (("out", 0), ("in", 0)) * 700
        self.assertEqual(moved(row, there + there), (1, ("", "ab" * 600), (("ab", (4400, 1)),)))
        self.check_refused(row, there * 3 + (("in", 0),) * 901, 3 * len(there) + 900)

    def test_any_ways_there_and_back(self):
        """Ways of any moves from a row and back to it, again and again, each as often as by chance."""
        chance = random.Random(185)
        for program in programs(186, 60):
            row = flat(program)
            told = ()
            for _ in range(chance.randint(1, 4)):
                way, back, now = [], [], row
                for _ in range(chance.randint(1, 12)):
                    found = any_move(chance, now)
                    if found is None:
                        break
                    way.append(found[0])
                    back.append(undoing(now, found[0]))
                    now = found[1]
                told += tuple(way + back[::-1]) * chance.randint(1, 60)
            self.assertEqual(moved(row, told), row)
            self.check_refused(row, told + (("out", True),), len(told))
            size = chance.randint(0, len(told))
            self.check_refused(row, told[:size] + (("in", 12),) + told, size)
            if now != row:
                self.assertEqual(moved(row, told + tuple(way)), now)

    def test_moves_that_are_told_again_are_not_made_again(self):
        """Rounds that lead back to the row are not gone through thousands of times."""
        row = (2, ("ab" * 50, "", "ba" * 50), (("ab", (2, 4, 0)), ("ab", (1, 0, 6))))
        for told in ((("out", 0), ("in", 0)), (("left", 0), ("right", 0)), (("left", 0),) * 20 + (("right", 0),) * 20):
            with mock.patch("everycount.checker.make_moves", side_effect=make_moves) as made:
                self.assertEqual(moved(row, (("out", 1),) + told * (16000 // len(told))), moved(row, (("out", 1),)))
            self.assertLess(sum(len(call.args[1]) for call in made.call_args_list), 2000)

    def test_part_again_and_again(self):
        row = (1, ("", ""), (("ab", (0, 10 ** 6)),))
        self.assertEqual(moved(row, (("part", 0, (0, 1)), ("join", 0)) * 10000), row)
        parted = moved(row, (("part", 0, (0, 1)),) + tuple(("part", j, (0, 1)) for j in range(1, 10000)))
        self.assertEqual(parted[2], (("ab", (0, 1)),) * 10000 + (("ab", (0, 10 ** 6 - 10000)),))
        self.assertEqual(parted[1], ("",) * 10002)
        self.assertEqual(moved(parted, (("join", 0),) * 10000), row)

    def test_words_that_become_long(self):
        row = (1, ("", "ab"), (("ab", (0, 10 ** 6)),))
        self.assertEqual(moved(row, (("whole", 0, 10 ** 6),)), (1, ("", "ab"), (("ab" * 10 ** 6, (0, 1)),)))
        there = (("whole", 0, 10 ** 6), ("right", 0), ("right", 0), ("left", 0), ("left", 0), ("root", 0, 10 ** 6))
        self.assertEqual(moved(row, there * 3333), row)
        self.check_refused(row, (("whole", 0, 10 ** 6), ("in", 0)), 1)
        self.check_refused(row, (("whole", 0, 10 ** 6), ("root", 0, 10 ** 6 + 1)), 1)
        long = moved(row, (("whole", 0, 10 ** 6), ("right", 0)))
        self.assertEqual(long, (1, ("a", "b"), (("ba" * 10 ** 6, (0, 1)),)))
        self.assertEqual(moved(long, (("root", 0, 10 ** 6), ("left", 0))), row)

    def test_by_name(self):
        self.assertEqual(moved(moves=(("out", 1),), row=ROW), moved(ROW, (("out", 1),)))

    def test_arguments_are_not_changed(self):
        kept = copy.deepcopy(ROW)
        told = (("out", 0), ["left", [0]])
        self.check_refused(ROW, told, 1)
        self.assertEqual(told, (("out", 0), ["left", [0]]))
        self.assertEqual(moved(ROW, told[:1]), moved(kept, told[:1]))
        self.assertEqual(ROW, kept)

    def test_error(self):
        for kind in (NoMove, CountError, ValueError):
            with self.assertRaises(kind) as caught:
                moved(ROW, (("out", 0), ("out", 7)))
            self.assertEqual(caught.exception.number, 1)


if __name__ == "__main__":
    unittest.main()
