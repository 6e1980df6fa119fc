import random
import unittest

from oddlong.rows import is_program
from tests.helper import SPOTS, check_own, deep, odd_things, random_program

PROGRAM = [("set", "a", 0), ("set", "d", 255), ("add", "a", "b"), ("add", "c", "c"), ("take", "d", "a"), ("tell", "b"), ("ask", "c"),
           ("jump", 0), ("jump", 1), ("jump", 12), ("zero", "a", 0), ("zero", "d", 12)]
RIGHT = {}


def right_rows(end):
    """The writing of all rows of a program with that end."""
    if end not in RIGHT:
        rows = [("set", spot, number) for spot in SPOTS for number in range(256)]
        rows += [(kind, spot, other) for kind in ("add", "take") for spot in SPOTS for other in SPOTS]
        rows += [(kind, spot) for kind in ("tell", "ask") for spot in SPOTS]
        rows += [("jump", at) for at in range(end + 1)] + [("zero", spot, at) for spot in SPOTS for at in range(end + 1)]
        RIGHT[end] = {repr(row) for row in rows + [("stop",)]}
    return RIGHT[end]


def by_writing(thing):
    return isinstance(thing, list) and all(repr(row) in right_rows(len(thing)) for row in thing)


PARTS = [True, False, None, -1, 0, 1, 2, 12, 13, 255, 256, 10 ** 12, -10 ** 12, "", "0", "1", "a", "d", "e", "A", "ab", "abcd", " a", "a ",
         "stop", (), [], ("a",), ["a"], (0,), [0], deep(27), [None]]
KINDS = ["set", "add", "take", "tell", "ask", "jump", "zero", "stop", "farjump", "farzero", "skip", "Set", "se", "sett", "ad", "stopp", " stop",
         "stop\n", "", "s", "a", 0, True, None, ("stop",), ["stop"], (), [], deep(27)]


def changed_rows(row):
    """The row with one thing otherwise: a part changed, left out, twice, exchanged, one more."""
    yield list(row)
    yield [row]
    yield (row,)
    yield " ".join(map(str, row))
    for part in PARTS:
        yield row + (part,)
        yield (part,) + row
    for at in range(len(row)):
        yield row[:at] + row[at + 1:]
        yield row[:at] + (row[at],) + row[at:]
        for other in range(at):
            parts = list(row)
            parts[at], parts[other] = parts[other], parts[at]
            yield tuple(parts)
        for part in KINDS if at == 0 else PARTS:
            yield row[:at] + (part,) + row[at + 1:]
        if isinstance(row[at], str):
            yield row[:at] + (row[at][:-1],) + row[at + 1:]
            yield row[:at] + (row[at] * 2,) + row[at + 1:]
            yield row[:at] + (row[at].upper(),) + row[at + 1:]
        else:
            yield row[:at] + (str(row[at]),) + row[at + 1:]


class ProgramTest(unittest.TestCase):
    def test_programs(self):
        for program in ([], PROGRAM, [("stop",)], [("jump", 0)], [("jump", 1)], [("zero", "c", 1), ("stop",)], [("tell", "a")] * 200,
                        PROGRAM * 20, [("jump", 1000)] * 1000, PROGRAM[:7]):
            self.assertIs(is_program(program), True)
            self.assertTrue(by_writing(program))

    def test_every_right_row(self):
        for end in (1, 2, 5):
            rows = [("set", spot, number) for spot in SPOTS for number in range(256)]
            rows += [(kind, spot, other) for kind in ("add", "take") for spot in SPOTS for other in SPOTS]
            rows += [("zero", spot, at) for spot in SPOTS for at in range(end + 1)] + [("jump", at) for at in range(end + 1)]
            for row in rows:
                self.assertIs(is_program([("stop",)] * (end - 1) + [row]), True, row)

    def test_random_programs(self):
        source = random.Random(101)
        for many in (0, 1, 2, 3, 7, 50, 199, 200, 201, 400):
            program = random_program(source, many)
            self.assertIs(is_program(program), True)
            self.assertIs(is_program(tuple(program)), False)
            self.assertIs(is_program([program]), False)

    def test_places_beyond_the_end(self):
        for many in (1, 2, 12, 200, 300):
            for at, right in ((0, True), (many - 1, True), (many, True), (many + 1, False), (-1, False), (-many, False)):
                for row in (("jump", at), ("zero", "b", at)):
                    self.assertIs(is_program([("stop",)] * (many - 1) + [row]), right, row)
                    self.assertIs(is_program([row] + [("stop",)] * (many - 1)), right, row)

    def test_numbers(self):
        for number, right in ((-1, False), (0, True), (1, True), (255, True), (256, False), (True, False), (False, False), (None, False),
                              ("1", False), ("", False), ([1], False), ((1,), False)):
            self.assertIs(is_program([("set", "a", number)]), right, number)

    def test_one_thing_otherwise_in_one_row(self):
        for ahead, behind in (([], []), ([("tell", "a")], []), ([("stop",), ("jump", 3)], [("set", "a", 1)]), ([], [("stop",)] * 12)):
            for row in PROGRAM + [("stop",), ("set", "b", 1), ("zero", "b", 1)]:
                for other in changed_rows(row):
                    thing = ahead + [other] + behind
                    self.assertIs(is_program(thing), by_writing(thing), thing)

    def test_one_wrong_row_anywhere(self):
        for many in (1, 5, 210):
            program = [PROGRAM[at % 7] for at in range(many)]
            for at in (0, many // 2, many - 1):
                for wrong in (("stop", ), ["stop"], (), [], None, True, 0, "stop", ("halt",), ("jump", many + 1), ("set", "a", 256)):
                    thing = program[:at] + [wrong] + program[at + 1:]
                    self.assertIs(is_program(thing), wrong == ("stop",), thing)

    def test_wrong_things(self):
        for thing in odd_things():
            self.assertIs(is_program(thing), False, thing)
        for thing in ((), "", "stop", ("stop",), (("stop",),), [[("stop",)]], [(("stop",),)], [("stop",), None], {}):
            self.assertIs(is_program(thing), False, thing)

    def test_own(self):
        for thing in (PROGRAM[:], [], [["stop"]], None, [("jump", 2)], [[[]], []]):
            check_own(self, is_program, thing)


if __name__ == "__main__":
    unittest.main()
