"""[2] and the interface: names, arguments, kinds of values, and answers that stay the same."""

import copy
import importlib
import inspect
import itertools
import unittest

from tests.samples import deep_loops, holds_list, loop, programs, rows, text

INTERFACE = {
    "programs": {"value_of": ["form", "counts"], "is_program": ["value"], "written": ["program", "counts"]},
    "counting": {"length": ["program"], "letters": ["program", "letter"],
                 "letter_at": ["program", "counts", "place"], "counts_of": ["program", "text"]},
    "rows": {"flat": ["program"], "plain": ["program"], "row_program": ["row"], "is_row": ["value"],
             "is_plain": ["row"]},
}

PROGRAM = (1, (text("a"), loop((2, 0), text("b"), loop((1, 2), text("ab")))))

EXAMPLES = {
    "value_of": {"form": (1, 2, 3), "counts": (4, 5)},
    "is_program": {"value": PROGRAM},
    "written": {"program": PROGRAM, "counts": (2,)},
    "length": {"program": PROGRAM},
    "letters": {"program": PROGRAM, "letter": "b"},
    "letter_at": {"program": PROGRAM, "counts": (2,), "place": 1},
    "counts_of": {"program": PROGRAM, "text": "ababbab"},
    "flat": {"program": PROGRAM},
    "plain": {"program": PROGRAM},
    "row_program": {"row": (1, ("a", "b"), (("ba", (2, 1)),))},
    "is_row": {"value": (1, ("a", "b"), (("ba", (2, 1)),))},
    "is_plain": {"row": (1, ("a", "b"), (("ba", (2, 1)),))},
}

ANSWERS = {
    "value_of": 24,
    "is_program": True,
    "written": "a" + ("b" + "ab" * 5) * 2,
    "length": (7, 8),
    "letters": (4, 4),
    "letter_at": "b",
    "counts_of": ((0,),),
    "flat": (1, ("ab", "b", ""), (("ab", (1, 2)), ("ab", (1, 2)))),
    "plain": (1, ("", "abab", "bab"), (("ab", (0, 2)), ("ba", (0, 2)))),
    "row_program": (1, (text("a"), loop((2, 1), text("ba")), text("b"))),
    "is_row": True,
    "is_plain": False,
}


def listed():
    """The functions of the interface, with their names and their arguments' names."""
    for file, functions in INTERFACE.items():
        module = importlib.import_module("everycount." + file)
        for name, arguments in functions.items():
            yield module, name, getattr(module, name), arguments


class Interface(unittest.TestCase):
    def test_names_and_arguments(self):
        for module, name, function, arguments in listed():
            self.assertEqual(function.__module__, module.__name__)
            self.assertEqual(function.__name__, name)
            parameters = inspect.signature(function).parameters
            self.assertEqual(list(parameters), arguments)
            for parameter in parameters.values():
                self.assertIs(parameter.kind, inspect.Parameter.POSITIONAL_OR_KEYWORD)
                self.assertIs(parameter.default, inspect.Parameter.empty)

    def test_by_position_and_by_name_in_any_order(self):
        for _, name, function, arguments in listed():
            given = EXAMPLES[name]
            answer = ANSWERS[name]
            self.assertEqual(function(*[given[argument] for argument in arguments]), answer, name)
            for order in itertools.permutations(arguments):
                self.assertEqual(function(**{argument: given[argument] for argument in order}), answer, name)
            for known in range(len(arguments)):
                first = [given[argument] for argument in arguments[:known]]
                rest = {argument: given[argument] for argument in reversed(arguments[known:])}
                self.assertEqual(function(*first, **rest), answer, name)

    def test_kinds_of_values(self):
        for _, name, function, _ in listed():
            answer = function(**EXAMPLES[name])
            self.assertIs(type(answer), type(ANSWERS[name]), name)
            self.assertFalse(holds_list(answer), name)

    def test_same_answer_again(self):
        for _ in range(2):
            for _, name, function, _ in listed():
                given = copy.deepcopy(EXAMPLES[name])
                self.assertEqual(function(**given), ANSWERS[name], name)
                self.assertEqual(given, EXAMPLES[name])


class Passing(unittest.TestCase):
    """What one function returns may be passed on to the others."""

    def all_answers(self, program):
        counts = (1,) * program[0]
        answers = []
        for _, name, function, arguments in listed():
            given = {"program": program, "counts": counts, "letter": "a", "place": 0, "value": program}
            if set(arguments) <= set(given):
                answers.append(function(**{argument: given[argument] for argument in arguments}))
        return answers

    def test_returned_programs(self):
        from everycount.programs import is_program
        from everycount.rows import flat, is_plain, is_row, plain, row_program
        for program in programs(21, 100):
            for row in (flat(program), plain(program)):
                self.assertIs(is_row(row), True)
                back = row_program(row)
                self.assertIs(is_program(back), True)
                self.assertEqual(back[0], program[0])
                self.assertEqual(flat(back), row)
                self.assertEqual(plain(back), plain(program))
                self.assertEqual(is_plain(row), row == plain(program))
                self.assertFalse(holds_list(tuple(self.all_answers(back))))

    def test_rows_of_any_kind(self):
        from everycount.rows import is_row, row_program
        for row in rows(22, 100):
            self.assertIs(is_row(row), True)
            self.assertFalse(holds_list(tuple(self.all_answers(row_program(row)))))

    def test_deep_programs(self):
        for program in (deep_loops(25), deep_loops(25, 2), (1, (loop((10 ** 6, 0), loop((10 ** 6, 0))), text("a")))):
            kept = copy.deepcopy(program)
            self.assertEqual(self.all_answers(program), self.all_answers(program))
            self.assertEqual(program, kept)


if __name__ == "__main__":
    unittest.main()
