"""[16]: texts of programs, written and read, and the place at which no such text can go on."""

import copy
import random
import unittest

from everycount.errors import BadText, CountError
from everycount.programs import is_program
from everycount.texts import program_text, read_program
from tests.samples import (any_program, deep_loops, holds_list, loop, merged, programs, slow_fault, slow_read, text)

EXAMPLE = (2, (text("a"), loop((1, 2, 0), text("bc")), loop((3, 0, 0), loop((0, 0, 1), text("d")))))
SIGNS = "anmp012+:()" + "zo39" + "q ,;-*[]{}\n\t\rAZN'\"`{\\/_.~@^=" + "\x00\x7f\xb2\xe4\u0663\u0430\u2160\uff11\uff41\ud800\U0001d7d9"


class Writing(unittest.TestCase):
    def check(self, program, told):
        self.assertEqual(program_text(program), told)
        self.assertIs(type(program_text(program)), str)

    def test_example_of_the_document(self):
        self.check(EXAMPLE, "a(2n+1:bc)(3:(m:d))")

    def test_texts(self):
        self.check((0, ()), "")
        self.check((3, (text("abc"),)), "abc")
        self.check((0, (text(""), text("ab"), text(""), text("c"), text(""))), "abc")

    def test_forms(self):
        for form, told in (((0,), "0"), ((1,), "1"), ((99,), "99"), ((0, 0), "0"), ((0, 1), "n"), ((1, 1), "n+1"),
                           ((0, 2), "2n"), ((10, 10), "10n+10"), ((7, 0), "7"), ((0, 1, 1), "n+m"), ((0, 0, 1), "m"),
                           ((1, 0, 5), "5m+1"), ((0, 0, 0, 1), "p"), ((1, 1, 1, 1), "n+m+p+1"), ((0, 3, 0, 2), "3n+2p"),
                           ((999, 10 ** 6, 999999, 1), "1000000n+999999m+p+999"), ((0, 0, 0, 0), "0")):
            k = len(form) - 1
            self.check((k, (("loop", form, (text("a"),)),)), "(" + told + ":a)")
            self.assertEqual(read_program("(" + told + ":a)", k), (k, (("loop", form, (text("a"),)),)))

    def test_loops(self):
        self.check((1, (loop((0, 1)),)), "(n:)")
        self.check((1, (loop((0, 1), text("")),)), "(n:)")
        self.check((1, (loop((2, 0), loop((0, 1), text("a")), text("b"), loop((0, 3))), text("c"))), "(2:(n:a)b(3n:))c")
        self.check((1, (loop((0, 1), loop((2, 0), loop((0, 0), text("a")))),)), "(n:(2:(0:a)))")

    def test_long_numbers_and_deep_loops(self):
        number = 10 ** 600 - 1
        self.check((1, (loop((number, number), text("a")),)), "(" + "9" * 600 + "n+" + "9" * 600 + ":a)")
        self.check(deep_loops(25), "(n:" + "(1:" * 24 + "ab" + ")" * 25)

    def test_by_name_and_nothing_changes(self):
        kept = copy.deepcopy(EXAMPLE)
        self.assertEqual(program_text(program=EXAMPLE), program_text(EXAMPLE))
        self.assertEqual(EXAMPLE, kept)


class Reading(unittest.TestCase):
    def check_fault(self, told, k, place):
        for kind in (BadText, CountError, ValueError):
            with self.assertRaises(kind) as caught:
                read_program(told, k)
            self.assertIs(type(caught.exception), BadText)
            self.assertEqual(caught.exception.place, place, (told[:80], k))
            self.assertIs(type(caught.exception.place), int)
        self.assertEqual(BadText.__bases__, (CountError,))

    def check_any(self, told, k):
        """What a slow reading of the string says: a program, or where its fault is."""
        place = slow_fault(told, k)
        if place is None:
            program = read_program(told, k)
            self.assertEqual(program, (k, slow_read(told, k)))
            self.assertTrue(is_program(program))
            self.assertFalse(holds_list(program))
            self.assertEqual(program_text(program), told)
        else:
            self.check_fault(told, k, place)
        return place

    def test_example_of_the_document(self):
        self.assertEqual(read_program("a(2n+1:bc)(3:(m:d))", 2), EXAMPLE)
        self.assertEqual(read_program(k=2, text="a(2n+1:bc)(3:(m:d))"), EXAMPLE)
        self.assertEqual(read_program("a(2n+1:bc)(3:(m:d))", 3)[1][1], ("loop", (1, 2, 0, 0), (text("bc"),)))

    def test_faults_of_the_document(self):
        for told, place in (("(1n:a)", 2), ("(n:(m:a))", 4), ("(n+0:a)", 3), ("(m+n:a)", 3), ("a)", 1), ("(2:" * 26, 75),
                            ("(" + "1" * 601 + ":a)", 601), ("(" + "2" * 601 + "n:a)", 601)):
            self.check_fault(told, 2, place)

    def test_no_parts(self):
        for k in range(4):
            self.assertEqual(read_program("", k), (k, ()))
            self.assertEqual(read_program("(0:)", k), (k, (("loop", (0,) * (k + 1), ()),)))
        self.assertEqual(read_program("(n:)", 1), (1, (loop((0, 1)),)))
        self.assertEqual(read_program("(n:(2:))(m:)", 2), (2, (loop((0, 1, 0), loop((2, 0, 0))), loop((0, 0, 1)))))

    def test_counts(self):
        for k in range(4):
            for number, count in enumerate("nmp"):
                told = "(" + count + ":a)"
                if number < k:
                    self.assertEqual(read_program(told, k)[1][0][1][number + 1], 1)
                else:
                    self.check_fault(told, k, 1)
                    self.check_fault("(2" + told[1:], k, 2)
                    if k > 0:
                        self.check_fault("(n+" + told[1:], k, 3)
        self.assertEqual(read_program("(2n+3m+4p+5:)", 3), (3, (loop((5, 2, 3, 4)),)))

    def test_open_loops_in_open_ones(self):
        self.check_fault("(n:(n:a))", 1, 4)
        self.check_fault("(n:(2:(n:a)))", 1, 7)
        self.check_fault("(n:(2n:a))", 1, 5)
        self.check_fault("(n:a(2+n:a))", 1, 6)
        self.check_fault("(2:(n:a)(m:(0:(3p:b))))", 3, 16)
        self.assertEqual(slow_read("(2:(n:a)(m:(0:(3:b))))", 3), read_program("(2:(n:a)(m:(0:(3:b))))", 3)[1])
        self.assertEqual(read_program("(n:a)(n:b)", 1), (1, (loop((0, 1), text("a")), loop((0, 1), text("b")))))
        self.assertEqual(read_program("(0:(n:a))", 1), (1, (loop((0, 0), loop((0, 1), text("a"))),)))

    def test_numbers(self):
        for told, place in (("(00:)", 2), ("(01:)", 2), ("(0n:)", 2), ("(0+n:)", 2), ("(0+1:)", 2), ("(1n:)", 2), ("(11n", 4),
                            ("(n+1n:)", 4), ("(n+01:)", 3), ("(n+00:)", 3), ("(n+1m:)", 4), ("(1+n:)", 2), ("(2+2:)", 2),
                            ("(n+2+m:)", 4), ("(n+n:)", 3), ("(n+2n:)", 4), ("(m+2n:)", 4), ("(n+m+1m:)", 6), ("(2n1:)", 3),
                            ("(nm:)", 2), ("(n2:)", 2), ("(+n:)", 1), ("(n++m:)", 3), ("(n+:)", 3), ("(:)", 1), ("()", 1),
                            ("(-1:)", 1), ("(n-1:)", 2), ("(1.5:)", 2), ("(2*n:)", 2), ("(10n+0m:)", 5), ("(10m+10:", 8)):
            self.check_fault(told, 2, place)
        self.assertEqual(read_program("(10n+20m+10:)", 2), (2, (loop((10, 10, 20)),)))

    def test_long_numbers(self):
        long = "9" * 600
        number = 10 ** 600 - 1
        self.assertEqual(read_program("(" + long + ":)", 0), (0, (loop((number,)),)))
        self.assertEqual(read_program("(" + long + "n+" + long + "m+" + long + ":)", 2), (2, (loop((number,) * 3),)))
        for k, ahead in ((0, "("), (1, "(n+"), (2, "(2n+"), (2, "(n+m+"), (1, "a(n:("), (3, "(" + long + "n+")):
            for end in (":)", "n:)", "", "9"):
                self.check_fault(ahead + long + "0" + end, k, len(ahead) + 600)
            self.check_fault(ahead + long, k, len(ahead) + 600)

    def test_deep_loops(self):
        for head in ("(2:", "(0:", "(2:a"):
            told = head * 25 + "b" + ")" * 25
            program = read_program(told, 1)
            self.assertEqual(program_text(program), told)
            self.check_fault(head * 26 + "b" + ")" * 26, 1, 25 * len(head))
            self.check_fault(head * 25, 1, 25 * len(head))
        self.assertEqual(read_program(program_text(deep_loops(25)), 1), deep_loops(25))
        wide = "(2:" * 25 + ")" * 24 + "(3:)" + ")"
        self.assertEqual(program_text(read_program(wide, 0)), wide)
        self.assertEqual(read_program(wide + wide, 0)[1], read_program(wide, 0)[1] * 2)
        self.check_fault("(2:" * 25 + "a(", 0, 76)

    def test_brackets(self):
        for told, place in ((")", 0), ("a)", 1), ("(n:a))", 5), ("(n:a", 4), ("(n:", 3), ("(n", 2), ("(", 1), ("(n)", 2),
                            ("(n(:a)", 2), ("n:a", 1), ("(n:a:b)", 4), ("(n:a+b)", 4), ("(n::a)", 3), ("(a:n)", 1),
                            ("(2:(n:a)", 8), ("((n:a))", 1), ("a(n:b)c:", 7), ("ab1", 2), ("1", 0), ("+", 0), (":", 0)):
            self.check_fault(told, 1, place)

    def test_program_and_back(self):
        chance = random.Random(601)
        for program in programs(602, 400) + [any_program(chance, 0) for _ in range(30)]:
            told = program_text(program)
            back = read_program(told, program[0])
            self.assertEqual(back, (program[0], merged(program[1])))
            self.assertEqual(program_text(back), told)
            self.assertTrue(is_program(back))
            self.assertFalse(holds_list(back))

    def test_texts_side_by_side(self):
        self.assertEqual(read_program(program_text((1, (text("a"), text("b"), loop((0, 1), text(""), text("c"))))), 1),
                         (1, (text("ab"), loop((0, 1), text("c")))))
        self.assertEqual(read_program("nmp(n:nmp)", 1), (1, (text("nmp"), loop((0, 1), text("nmp")))))

    def test_cut_at_every_place(self):
        for program in programs(603, 60) + [EXAMPLE]:
            told = program_text(program)
            for size in range(len(told)):
                place = self.check_any(told[:size], program[0])
                self.assertIn(place, (None, size))

    def test_each_other_sign_at_each_place(self):
        chance = random.Random(604)
        seen = 0
        for program in [EXAMPLE, (1, (loop((2, 10), text("ab"), loop((3, 0), text("c"))), text("n")))] + programs(605, 8, 3):
            told = program_text(program)
            if len(told) > 60:
                continue
            for place in range(len(told) + 1):
                for sign in SIGNS:
                    if chance.random() < 0.5:
                        changed = told[:place] + sign + told[place:]
                    else:
                        changed = told[:place] + sign + told[place + 1:]
                    fault = self.check_any(changed, program[0])
                    seen += fault is not None
        self.assertGreater(seen, 3000)

    def test_signs_that_are_never_read(self):
        for sign in SIGNS[SIGNS.index("q") + 1:]:
            for told in ("", "a", "(", "(2", "(n", "(n+", "(n+3", "(n:", "(n:a", "(n:a)", "(2n"):
                self.check_fault(told + sign, 1, len(told))
                self.check_fault(told + sign + "a:)", 1, len(told))

    def test_any_strings(self):
        chance = random.Random(606)
        faults = []
        for _ in range(3000):
            told = "".join(chance.choice("((((:::)))nnmmp+++0123ab") for _ in range(chance.randint(0, 14)))
            faults.append(self.check_any(told, chance.randint(0, 3)))
        for _ in range(1500):
            told = program_text(any_program(chance))
            for _ in range(chance.randint(1, 2)):
                place = chance.randint(0, len(told))
                told = told[:place] + chance.choice("(:)nmp+012a") + told[place + chance.randint(0, 1):]
            if len(told) < 60:
                faults.append(self.check_any(told, chance.randint(0, 3)))
        self.assertGreater(faults.count(None), 100)
        self.assertGreater(max(fault or 0 for fault in faults), 20)


if __name__ == "__main__":
    unittest.main()
