import random
import re
import unittest

from oddlong.errors import BadRow, OddError
from oddlong.rows import is_program
from oddlong.sheet import read_program, written_program
from tests.helper import check_own, random_program, same, told

NUMBER = r"(0|[1-9][0-9]?|1[0-9][0-9]|2[0-4][0-9]|25[0-5])"
ROWS = [re.compile(row) for row in (rf"(set) ([abcd]) {NUMBER}", r"(add) ([abcd]) ([abcd])", r"(take) ([abcd]) ([abcd])", r"(tell) ([abcd])",
                                    r"(ask) ([abcd])", r"(jump) ([a-z]{1,8})", r"(zero) ([abcd]) ([a-z]{1,8})", r"(stop)")]
LABEL = re.compile(r"([a-z]{1,8}):")


def read_by_hand(text):
    """The program of a sheet, or the refusal, by the words of the document."""
    rows = text.split("\n")
    labels, many = {}, 0
    for row in rows:
        if LABEL.fullmatch(row):
            labels.setdefault(row[:-1], many)
        elif row:
            many += 1
    program, ahead = [], []
    for at, row in enumerate(rows):
        bad = ("refused", "BadRow", {"row": at})
        if row == "":
            continue
        if LABEL.fullmatch(row):
            if row in ahead:
                return bad
            ahead.append(row)
            continue
        found = [form.fullmatch(row) for form in ROWS if form.fullmatch(row)]
        if not found or len(program) >= 200:
            return bad
        words = list(found[0].groups())
        if words[0] == "set":
            words[2] = int(words[2])
        if words[0] in ("jump", "zero"):
            if words[-1] not in labels:
                return bad
            words[-1] = labels[words[-1]]
        program.append(tuple(words))
    return program


def written_by_hand(program):
    """The text of a program, by the words of the document."""
    letters = "abcdefghijklmnopqrstuvwxyz"
    goals = [place for place in range(len(program) + 1) if any(row[0] in ("jump", "zero") and row[-1] == place for row in program)]
    names = {place: "l" + letters[at // 26] + letters[at % 26] for at, place in enumerate(goals)}
    rows = []
    for at in range(len(program) + 1):
        if at in names:
            rows.append(names[at] + ":")
        if at < len(program):
            row = program[at]
            words = row[:-1] + (names[row[-1]],) if row[0] in ("jump", "zero") else row
            rows.append(" ".join(str(word) for word in words))
    return "\n".join(rows)


def loose_sheet(source, program):
    """A sheet of a program, with labels of any names, several of one place, some to which no jump goes, and empty rows."""
    names = ["a", "b", "set", "stop", "jump", "abcdefgh", "loop", "zz", "end", "x", "add", "l", "laa", "lab"]
    source.shuffle(names)
    places = {name: source.randint(0, len(program)) for name in names}
    rows = []
    for at in range(len(program) + 1):
        rows += [""] * source.choice([0, 0, 0, 1, 2])
        rows += [name + ":" for name in names if places[name] == at]
        rows += [""] * source.choice([0, 0, 0, 1])
        if at < len(program):
            row = program[at]
            if row[0] in ("jump", "zero"):
                name = source.choice(names)
                program[at] = row[:-1] + (places[name],)
                row = row[:-1] + (name,)
            rows.append(" ".join(str(word) for word in row))
    return "\n".join(rows)


WRONG = [" ", "  ", ":", "a b:", "a :", " a:", "a: ", "a::", "A:", "abcdefghi:", "a1:", "a-b:", "a:stop", "a: stop", "stop a", "stop ", " stop",
         "stop  ", "Stop", "STOP", "stopp", "sto", "halt", "skip", "skip 3", "farjump a", "farzero a a", "set", "set a", "set a ", "set a  1",
         "set  a 1", " set a 1", "set a 1 ", "set a 1 1", "set e 1", "set A 1", "set aa 1", "set  1", "set 1 a", "set a 256", "set a 300",
         "set a 1000", "set a 00", "set a 01", "set a 007", "set a 000", "set a 0255", "set a +1", "set a -1", "set a -0", "set a 1.0", "set a 1e1",
         "set a x", "set a a", "set a 0x1", "set a 1_0", "set a 25 5", "set a " + "9" * 190, "set a " + "1" * 5000, "set a 0b1", "add", "add a",
         "add a b c", "add a e", "add e a", "add a  b", "add a 1", "add  a b", "add a b ", "take", "take a", "take a ab", "take e b", "take a b a",
         "taken a b", "tell", "tell e", "tell a b", "tell ", "tell  a", "tell a ", "tell 1", "Tell a", "tell A", "ask", "ask e", "ask a a", "ask ",
         "jump", "jump ", "jump a b", "jump nowhere", "jump 0", "jump 1", "jump LOOP", "jump abcdefghi", "jump  loop", "jump loop ", "jump loop:",
         "zero", "zero a", "zero loop", "zero loop a", "zero e loop", "zero a nowhere", "zero a loop loop", "zero a 0", "zero  a loop",
         "zero a  loop", "zero a loop ", "zero a loop:", "zero a LOOP", ";", "# stop", "~", "stop;", "stop:stop", "jump: loop", "[]", "None"]


class ReadTest(unittest.TestCase):
    def check(self, text):
        expected = read_by_hand(text)
        answer = told(read_program, (text,))
        self.assertTrue(same(answer, expected), (text, answer, expected))
        return expected

    def refused(self, text, row):
        with self.assertRaises(BadRow) as caught:
            read_program(text)
        self.assertTrue(same(caught.exception.row, row), (text, caught.exception.row))
        self.assertIsInstance(caught.exception, OddError)
        self.assertEqual(read_by_hand(text), ("refused", "BadRow", {"row": row}))

    def test_written_out(self):
        self.assertTrue(same(read_program(""), []))
        self.assertTrue(same(read_program("\n\n"), []))
        self.assertTrue(same(read_program("loop:"), []))
        self.assertTrue(same(read_program("\na:\n\nb:\n"), []))
        self.assertTrue(same(read_program("stop"), [("stop",)]))
        self.assertTrue(same(read_program("stop\n"), [("stop",)]))
        self.assertTrue(same(read_program("set a 0\nset d 255\nadd b c\ntake c c\ntell a\nask b\nstop"),
                             [("set", "a", 0), ("set", "d", 255), ("add", "b", "c"), ("take", "c", "c"), ("tell", "a"), ("ask", "b"), ("stop",)]))
        self.assertTrue(same(read_program("loop:\nask a\nzero a end\ntell a\njump loop\nend:"),
                             [("ask", "a"), ("zero", "a", 4), ("tell", "a"), ("jump", 0)]))
        self.assertTrue(same(read_program("jump b\n\nstop\na:\nb:\n\nc:\nstop\njump a\nzero d c"),
                             [("jump", 2), ("stop",), ("stop",), ("jump", 2), ("zero", "d", 2)]))
        # Words of rows may be names of labels.
        self.assertTrue(same(read_program("stop:\njump stop\nset:\nzero a set\na:\njump a"), [("jump", 0), ("zero", "a", 1), ("jump", 2)]))

    def test_all_numbers(self):
        text = "\n".join(f"set {'abcd'[number % 4]} {number}" for number in range(200))
        self.assertTrue(same(read_program(text), [("set", "abcd"[number % 4], number) for number in range(200)]))
        for number in range(200, 256):
            self.assertTrue(same(read_program(f"set a {number}"), [("set", "a", number)]))
        for number in list(range(256, 1100)) + [9999, 10 ** 12]:
            self.refused(f"set a {number}", 0)
        for number in range(256):
            self.refused(f"set a 0{number}", 0)
            self.refused(f"set a {number}0000", 0)

    def test_names_of_labels(self):
        for name in ("a", "z", "abcdefgh", "zzzzzzzz", "set", "one"):
            self.assertTrue(same(read_program(f"jump {name}\n{name}:"), [("jump", 1)]))
        for name in ("", "A", "abcdefghi", "aB", "a1", "1", "a_b", "a-b", "a.b", "a b"):
            self.refused(f"jump {name}\n{name}:", 0)
            self.refused(f"stop\n{name}:\njump {name}", 1)

    def test_wrong_rows(self):
        for row in WRONG:
            self.refused(row, 0)
            self.refused(f"loop:\n\nstop\n{row}\nzero a loop", 3)
            self.refused(f"{row}\nloop:", 0)
            self.refused(f"\n\n{row}\n{row}\nloop:\nloop:", 2)
            self.refused(f"jump loop\nloop:\n{row}", 2)

    def test_rows_that_cannot_stand_there(self):
        self.refused("a:\na:", 1)
        self.refused("a:\nstop\n\nb:\na:\nb:", 4)
        self.refused("jump a\na:\na:", 2)
        self.refused("jump a", 0)
        self.refused("a:\njump b", 1)
        self.refused("a:\njump a\nzero c b\njump c", 2)
        self.refused("jump a\na :", 0)
        self.refused("jump a\nA:", 0)
        self.refused("stop\njump a\nstopp\na:", 2)
        self.refused("stop\nstopp\njump a", 1)
        self.refused("a:\njump b\na:", 1)
        self.refused("a:\na:\njump b", 1)

    def test_the_201st_row(self):
        rows = ["stop"] * 200
        self.assertTrue(same(read_program("\n".join(rows)), [("stop",)] * 200))
        self.assertTrue(same(read_program("\n\n".join(rows) + "\nend:\n\n"), [("stop",)] * 200))
        self.refused("\n".join(rows + ["stop"]), 200)
        self.refused("\n\n".join(rows + ["stop"]), 400)
        self.refused("\n".join(["a:"] + rows + ["b:", "", "tell a", "tell b"]), 203)
        self.refused("\n".join(rows + ["a:", "a:", "stop"]), 201)
        self.refused("\n".join(rows[:199] + ["jump end", "stop", "end:"]), 200)
        self.refused("\n".join(rows[:199] + ["jump end", "stop"]), 199)
        self.refused("\n".join(rows + ["stop", "jump nowhere"]), 200)
        self.refused("\n".join(["jump end"] + rows[:199] + ["stop", "end:"]), 200)
        self.assertEqual(len(read_program("\n".join(["jump end"] + rows[:199] + ["end:"]))), 200)

    def test_any_sheets(self):
        source = random.Random(371)
        for _ in range(200):
            program = random_program(source, source.randint(0, 20), source.choice([0, 0.3, 0.8]))
            text = loose_sheet(source, program)
            self.assertTrue(same(read_program(text), program), text)
            self.check(text)

    def test_sheets_with_faults(self):
        source = random.Random(372)
        ends = {True: 0, False: 0}
        for _ in range(2500):
            text = loose_sheet(source, random_program(source, source.randint(0, 8), 0.4))
            rows = text.split("\n")
            for _ in range(source.choice([1, 1, 2, 3])):
                at = source.randrange(len(rows))
                row = rows[at]
                place = source.randint(0, len(row))
                rows[at] = source.choice([row[:place] + " " + row[place:], row[:place] + row[place + 1:], row.upper(), source.choice(WRONG),
                                          row[:place] + source.choice("abzd019: ~") + row[place + 1:], source.choice(rows), "", row + ":"])
                if source.random() < 0.3:
                    rows.insert(at, source.choice(rows))
            ends[isinstance(self.check("\n".join(rows)), list)] += 1
        self.assertGreater(min(ends.values()), 200, ends)

    def test_600_rows_of_200_signs(self):
        rows = ["", "stop", ""] * 200
        self.assertEqual(len(read_program("\n".join(rows))), 200)
        self.refused("\n".join(rows[:599] + ["s" * 200]), 599)
        self.refused("\n".join(["a" * 199 + ":"] * 600), 0)
        labels = ["a" * many + letter + ":" for many in range(8) for letter in "abcdefghijklmnopqrstuvwxyz"]
        labels = list(dict.fromkeys(labels))
        self.assertTrue(same(read_program("\n".join(labels + ["jump a", "zero b b"])), [("jump", 0), ("zero", "b", 0)]))

    def test_own(self):
        for text in ("", "stop", "a:\njump a\nset a 7", "a:\na:", "jump b"):
            check_own(self, read_program, text)


class WrittenTest(unittest.TestCase):
    def check(self, program):
        text = written_program(program)
        self.assertTrue(same(text, written_by_hand(program)), program)
        self.assertTrue(same(read_program(text), program))
        return text

    def test_written_out(self):
        self.assertTrue(same(written_program([]), ""))
        self.assertTrue(same(written_program([("stop",)]), "stop"))
        self.assertTrue(same(written_program([("jump", 0)]), "laa:\njump laa"))
        self.assertTrue(same(written_program([("jump", 1)]), "jump laa\nlaa:"))
        self.assertTrue(same(written_program([("set", "a", 0), ("set", "b", 255), ("add", "a", "b"), ("take", "c", "d"), ("tell", "a"), ("ask", "d"),
                                              ("stop",)]), "set a 0\nset b 255\nadd a b\ntake c d\ntell a\nask d\nstop"))
        self.assertTrue(same(written_program([("ask", "a"), ("zero", "a", 4), ("tell", "a"), ("jump", 0)]),
                             "laa:\nask a\nzero a lab\ntell a\njump laa\nlab:"))
        self.assertTrue(same(written_program([("jump", 2), ("jump", 2), ("zero", "c", 1)]), "jump lab\nlaa:\njump lab\nlab:\nzero c laa"))

    def test_any_programs(self):
        source = random.Random(381)
        for _ in range(200):
            self.check(random_program(source, source.randint(0, 30), source.choice([0, 0.3, 0.8, 1])))

    def test_200_rows_and_as_many_labels(self):
        source = random.Random(382)
        program = [("jump", at) for at in range(200)]
        text = self.check(program)
        self.assertEqual(text.count(":"), 200)
        self.assertIn("lhr:\njump lhr", text)
        for shift in (1, 100):
            goals = [(at + shift) % 201 for at in range(200)]
            self.assertEqual(self.check([("zero", "b", goal) for goal in goals]).count(":"), 200)
        self.assertEqual(self.check([("jump", 200)] * 200).count(":"), 1)
        for jumps in (0.1, 0.5, 1):
            program = random_program(source, 200, jumps)
            self.assertTrue(is_program(program))
            self.assertLessEqual(self.check(program).count("\n"), 600)

    def test_read_and_written_again(self):
        source = random.Random(383)
        for _ in range(60):
            program = random_program(source, source.randint(0, 12), 0.5)
            text = loose_sheet(source, program)
            self.assertTrue(same(written_program(read_program(text)), written_by_hand(program)))

    def test_own(self):
        for program in ([], [("stop",)], [("jump", 1), ("zero", "a", 0)]):
            check_own(self, written_program, program)


if __name__ == "__main__":
    unittest.main()
