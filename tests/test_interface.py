"""[2] and the interface: names, arguments, kinds of values, and answers that stay the same."""

import copy
import importlib
import inspect
import itertools
import unittest

from everycount import errors
from everycount.checker import moved, parting
from everycount.errors import NoMove, NoPlace
from everycount.longs import Long
from everycount.programs import is_program, written
from everycount.rows import flat, is_plain, is_row, plain, row_program
from everycount.texts import program_text, read_program
from tests.samples import deep_loops, holds_list, loop, programs, rows, text

INTERFACE = {
    "programs": {"value_of": ["form", "counts"], "is_program": ["value"], "written": ["program", "counts"]},
    "counting": {"length": ["program"], "letters": ["program", "letter"],
                 "letter_at": ["program", "counts", "place"], "counts_of": ["program", "text"]},
    "turning": {"joined": ["one", "other"], "mirrored": ["program"], "filled": ["program", "letter", "word"],
                "repeated": ["program", "number"], "put": ["program", "number", "form"]},
    "rows": {"flat": ["program"], "plain": ["program"], "row_program": ["row"], "is_row": ["value"],
             "is_plain": ["row"]},
    "verdicts": {"alike": ["one", "other"], "parted_at": ["one", "other"], "least_parted": ["one", "other"],
                 "renamed": ["one", "other"], "order": ["one", "other"], "shared": ["one", "other"]},
    "checker": {"parting": ["one", "other", "value"], "moved": ["row", "moves"]},
    "moves": {"moves": ["one", "other"]},
    "rests": {"rest": ["one", "other"], "power": ["program"]},
    "holding": {"may_hold": ["program", "word"], "must_hold": ["program", "word"], "held_at": ["program", "word"],
                "often": ["program", "word"]},
    "texts": {"program_text": ["program"], "read_program": ["text", "k"]},
}

ERRORS = {"TooLong": "length", "Unused": "number", "NoPlace": "word", "NoMove": "number", "NoLetter": "place",
          "BadText": "place"}

METHODS = {"letter": ["i"], "part": ["begin", "end"], "common": ["y"], "find": ["word", "begin"], "count": ["word"],
           "text": []}
OPERATORS = ("__add__", "__eq__", "__ne__", "__lt__", "__le__", "__gt__", "__ge__")

PROGRAM = (1, (text("a"), loop((2, 0), text("b"), loop((1, 2), text("ab")))))
TURNS = (1, (loop((0, 1), text("ab")), text("a")))
TURNED = (1, (text("a"), loop((0, 1), text("ba"))))
BLOCKS = (1, (loop((0, 1), text("a")), loop((0, 1), text("b")), text("a")))
ROW = (1, ("a", "b"), (("ba", (2, 1)),))

EXAMPLES = {
    "value_of": {"form": (1, 2, 3), "counts": (4, 5)},
    "is_program": {"value": PROGRAM},
    "written": {"program": PROGRAM, "counts": (2,)},
    "length": {"program": PROGRAM},
    "letters": {"program": PROGRAM, "letter": "b"},
    "letter_at": {"program": PROGRAM, "counts": (2,), "place": 1},
    "counts_of": {"program": PROGRAM, "text": "ababbab"},
    "joined": {"one": TURNS, "other": BLOCKS},
    "mirrored": {"program": TURNS},
    "filled": {"program": TURNS, "letter": "a", "word": "ca"},
    "repeated": {"program": TURNS, "number": 2},
    "put": {"program": TURNS, "number": 0, "form": (3,)},
    "flat": {"program": PROGRAM},
    "plain": {"program": PROGRAM},
    "row_program": {"row": ROW},
    "is_row": {"value": ROW},
    "is_plain": {"row": ROW},
    "alike": {"one": TURNS, "other": TURNED},
    "parted_at": {"one": TURNS, "other": BLOCKS},
    "least_parted": {"one": TURNS, "other": BLOCKS},
    "renamed": {"one": TURNS, "other": TURNED},
    "order": {"one": TURNS, "other": BLOCKS},
    "shared": {"one": TURNS, "other": BLOCKS},
    "parting": {"one": TURNS, "other": BLOCKS, "value": ((2,), 1)},
    "moved": {"row": ROW, "moves": (("out", 0),)},
    "moves": {"one": TURNS, "other": TURNED},
    "rest": {"one": TURNS, "other": (1, (text(""), loop((0, 1), text("ab"))))},
    "power": {"program": (1, TURNS[1] + TURNS[1])},
    "may_hold": {"program": BLOCKS, "word": "bba"},
    "must_hold": {"program": BLOCKS, "word": "bba"},
    "held_at": {"program": BLOCKS, "word": "bba"},
    "often": {"program": BLOCKS, "word": "aa"},
    "program_text": {"program": PROGRAM},
    "read_program": {"text": "a(2:b(2n+1:ab))", "k": 1},
}

ANSWERS = {
    "value_of": 24,
    "is_program": True,
    "written": "a" + ("b" + "ab" * 5) * 2,
    "length": (7, 8),
    "letters": (4, 4),
    "letter_at": "b",
    "counts_of": ((0,),),
    "flat": (1, ("ab", "b", ""), (("ab", (1, 2)), ("ab", (1, 2)))),
    "plain": (1, ("", "abab", "bab"), (("ab", (0, 2)), ("ba", (0, 2)))),
    "is_row": True,
    "is_plain": False,
    "alike": True,
    "least_parted": (2,),
    "renamed": (0,),
    "order": ((0, 0), 1),
    "shared": ((1, 3), (1, 0)),
    "parting": True,
    "moved": (1, ("a", "bab"), (("ba", (1, 1)),)),
    "rest": (1, ("a",), ()),
    "power": ((1, ("", "a"), (("ab", (0, 1)),)), 2),
    "may_hold": True,
    "must_hold": False,
    "often": (-1, 1),
    "program_text": "a(2:b(2n+1:ab))",
    "read_program": PROGRAM,
}

# Where the document leaves the result open: what it asks of it.
OPEN_ANSWERS = {
    "joined": lambda answer: is_program(answer) and written(answer, (2,)) == "abab" + "a" + "aabb" + "a",
    "mirrored": lambda answer: is_program(answer) and written(answer, (2,)) == "ababa",
    "filled": lambda answer: is_program(answer) and written(answer, (2,)) == "cabcabca",
    "repeated": lambda answer: is_program(answer) and written(answer, (2,)) == "ababaababa",
    "put": lambda answer: is_program(answer) and written(answer, ()) == "abababa",
    "row_program": lambda answer: is_program(answer) and flat(answer) == ROW,
    "parted_at": lambda answer: type(answer) is tuple and parting(TURNS, BLOCKS, answer),
    "moves": lambda answer: type(answer) is tuple and moved(flat(TURNS), answer) == flat(TURNED),
    "held_at": lambda answer: answer in ((2,), (3,)),
}


def listed():
    """The functions of the interface, with their names and their arguments' names."""
    for file, functions in INTERFACE.items():
        module = importlib.import_module("everycount." + file)
        for name, arguments in functions.items():
            yield module, name, getattr(module, name), arguments


class Interface(unittest.TestCase):
    def test_names_and_arguments(self):
        for module, name, function, arguments in listed():
            self.assertEqual(function.__module__, module.__name__)
            self.assertEqual(function.__name__, name)
            parameters = inspect.signature(function).parameters
            self.assertEqual(list(parameters), arguments)
            for parameter in parameters.values():
                self.assertIs(parameter.kind, inspect.Parameter.POSITIONAL_OR_KEYWORD)
                self.assertIs(parameter.default, inspect.Parameter.empty)

    def check(self, name, answer):
        if name in ANSWERS:
            self.assertEqual(answer, ANSWERS[name], name)
            self.assertIs(type(answer), type(ANSWERS[name]), name)
        else:
            self.assertTrue(OPEN_ANSWERS[name](answer), name)
        self.assertFalse(holds_list(answer), name)

    def test_by_position_and_by_name_in_any_order(self):
        for _, name, function, arguments in listed():
            given = EXAMPLES[name]
            self.check(name, function(*[given[argument] for argument in arguments]))
            for order in itertools.permutations(arguments):
                self.check(name, function(**{argument: given[argument] for argument in order}))
            for known in range(len(arguments)):
                first = [given[argument] for argument in arguments[:known]]
                rest = {argument: given[argument] for argument in reversed(arguments[known:])}
                self.check(name, function(*first, **rest))

    def test_same_answer_again(self):
        for _ in range(2):
            for _, name, function, _ in listed():
                given = copy.deepcopy(EXAMPLES[name])
                answer = function(**given)
                self.check(name, answer)
                self.assertEqual(function(**given), answer)
                self.assertEqual(given, EXAMPLES[name])


class Classes(unittest.TestCase):
    def test_errors(self):
        for name, attribute in ERRORS.items():
            kind = getattr(errors, name)
            self.assertEqual(kind.__bases__, (errors.CountError,))
            self.assertEqual(kind.__module__, "everycount.errors")
            for value in (3, -1, None, "ahead", (1, ["a"]), 10 ** 599):
                self.assertEqual(vars(kind(value)), {attribute: value})
                self.assertEqual(vars(kind(**{attribute: value})), {attribute: value})
        self.assertEqual(errors.CountError.__bases__, (ValueError,))

    def test_long(self):
        self.assertEqual((Long.__module__, list(inspect.signature(Long).parameters)), ("everycount.longs", ["program", "counts"]))
        self.assertIsInstance(vars(Long)["size"], property)
        for name, arguments in METHODS.items():
            self.assertEqual(list(inspect.signature(vars(Long)[name]).parameters), ["self"] + arguments)
        for name in OPERATORS:
            self.assertIn(name, vars(Long))

    def test_long_by_position_and_by_name(self):
        x, y = Long(PROGRAM, (2,)), Long(counts=(1,), program=PROGRAM)
        self.assertEqual((x.text(), y.text()), ("a" + ("b" + "ab" * 5) * 2, "a" + ("b" + "ab" * 3) * 2))
        for _ in range(2):
            self.assertEqual((x.letter(3), x.letter(i=3)), ("b", "b"))
            self.assertEqual([part.text() for part in (x.part(1, 3), x.part(1, end=3), x.part(end=3, begin=1))], ["ba"] * 3)
            self.assertEqual((x.common(y), x.common(y=y)), (8, 8))
            self.assertEqual((x.find("bb", 0), x.find("bb", 12), x.count("bb")), (11, None, 1))
            self.assertEqual((x.size, (x + y).size), (23, 38))


class Passing(unittest.TestCase):
    """What one function returns may be passed on to the others."""

    def all_answers(self, program):
        k = program[0]
        row = flat(program)
        given = {"program": program, "counts": (1,) * k, "letter": "a", "place": 0, "value": program, "word": "aba",
                 "number": 0, "one": program, "other": program, "row": row, "moves": ()}
        if k > 0:
            given["form"] = (1,) * k
        left_out = ["value_of", "parting"] + (["order", "shared"] if k != 1 else [])
        answers = [Long(program, (1,) * k).text(), read_program(program_text(program), k)]
        for _, name, function, arguments in listed():
            if set(arguments) <= set(given) and name not in left_out:
                answers.append(function(**{argument: given[argument] for argument in arguments}))
        return answers

    def test_returned_programs(self):
        for program in programs(21, 100):
            for row in (flat(program), plain(program)):
                self.assertIs(is_row(row), True)
                back = row_program(row)
                self.assertIs(is_program(back), True)
                self.assertEqual(back[0], program[0])
                self.assertEqual(flat(back), row)
                self.assertEqual(plain(back), plain(program))
                self.assertEqual(is_plain(row), row == plain(program))
                self.assertFalse(holds_list(tuple(self.all_answers(back))))

    def test_results_that_are_no_programs_and_rows(self):
        """Each result may be passed on as any value: the checks refuse it or take it, and raise nothing else."""
        for program in programs(23, 30, 1):
            for answer in self.all_answers(program):
                self.assertIn(is_program(answer), (True, False))
                self.assertIn(is_row(answer), (True, False))
                with self.assertRaises(NoPlace):
                    parting(program, program, answer)
                try:
                    moved(flat(program), answer)
                except NoMove:
                    pass

    def test_rows_of_any_kind(self):
        for row in rows(22, 100):
            self.assertIs(is_row(row), True)
            self.assertFalse(holds_list(tuple(self.all_answers(row_program(row)))))

    def test_deep_programs(self):
        for program in (deep_loops(25), deep_loops(25, 2), (1, (loop((10 ** 6, 0), loop((10 ** 6, 0))), text("a")))):
            kept = copy.deepcopy(program)
            self.assertEqual(self.all_answers(program), self.all_answers(program))
            self.assertEqual(program, kept)


if __name__ == "__main__":
    unittest.main()
