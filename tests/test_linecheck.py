import random
import unittest

from oddlong.linecheck import shows_prices
from oddlong.lines import laid, line_prices
from tests.helper import check_own, deep, even_form, odd_things, random_form, random_program, random_uses, same, sum_forwards


def prices_by_hand(form, program, uses, line):
    """The lists by the words of the document, each number reckoned by itself, from the row on forwards."""
    prices = [[sum_forwards(form, program[at:], uses[at:], line, start) for start in range(line)] for at in range(len(program))]
    return prices + [[0] * line]


def changed(paper):
    """The paper with one thing otherwise, at any place."""
    yield tuple(paper)
    yield (paper,)
    yield [paper]
    yield paper + [[]]
    yield paper + [None]
    yield [[]] + paper
    yield paper[::-1]
    yield [tuple(row) for row in paper]
    yield [number for row in paper for number in row]
    for at, row in enumerate(paper):
        ahead, behind = paper[:at], paper[at + 1:]
        yield ahead + behind
        yield ahead
        yield paper[:at + 1] + paper[at:]
        yield paper + [row]
        for other in range(at):
            lists = paper[:]
            lists[at], lists[other] = lists[other], lists[at]
            yield lists
        for part in (tuple(row), [], None, True, 0, row[0], str(row), [row], row[:-1], row[1:], row + row[-1:], row + [0], [0] + row,
                     row[::-1], row[1:] + row[:1], row + row, deep(28)):
            yield ahead + [part] + behind
        for place, number in enumerate(row):
            for other in (number + 1, number - 1, -number, True, False, None, str(number), [number], (number,), deep(27)):
                yield ahead + [row[:place] + [other] + row[place + 1:]] + behind


class ShowsPricesTest(unittest.TestCase):
    def check_all(self, form, program, uses, line):
        right = prices_by_hand(form, program, uses, line)
        self.assertIs(shows_prices(form, program, uses, line, right), True)
        self.assertIs(shows_prices(form, program, uses, line, line_prices(form, program, uses, line)), True)
        for thing in changed(right):
            self.assertIs(shows_prices(form, program, uses, line, thing), same(thing, right), (program, uses, line, thing))

    def test_written_out(self):
        form = even_form(4, 10)
        # The far jump's 14 signs lie in one line of 16 just from 0, 1 and 2 on; a skip row has 7 to 14 signs.
        right = [[3] * 12 + [6] * 4, [0] * 16]
        self.assertIs(shows_prices(form, [("jump", 1)], [3], 16, right), True)
        self.assertIs(shows_prices(form, [("jump", 1)], [3], 16, [[3] * 11 + [6] * 5, [0] * 16]), False)
        self.assertIs(shows_prices(form, [("jump", 1)], [3], 16, [[3] * 13 + [6] * 3, [0] * 16]), False)
        self.assertIs(shows_prices(form, [("jump", 1)], [3], 16, [right[0], [0] * 15 + [1]]), False)
        self.assertIs(shows_prices(form, [("jump", 1)], [3], 16, right[:1]), False)
        self.assertIs(shows_prices(form, [("jump", 1)], [3], 16, right[1:]), False)
        self.assertIs(shows_prices(form, [], [], 8, [[0] * 8]), True)
        self.assertIs(shows_prices(form, [], [], 8, [[False] + [0] * 7]), False)
        self.assertIs(shows_prices(form, [], [], 8, []), False)
        self.assertIs(shows_prices(form, [], [], 8, [[0] * 9]), False)
        self.assertIs(shows_prices(form, [], [], 8, [[0] * 7]), False)
        one = line_prices(form, [("stop",)], [1], 8)
        self.assertEqual(one[0], [1] * 8)
        self.assertIs(shows_prices(form, [("stop",)], [1], 8, one), True)
        self.assertIs(shows_prices(form, [("stop",)], [1], 8, [[True] * 8, [0] * 8]), False)
        self.assertIs(shows_prices(form, [("stop",)], [1], 8, [[1] * 7 + [True], [0] * 8]), False)

    def test_one_thing_otherwise(self):
        source = random.Random(191)
        for _ in range(12):
            form = random_form(source)
            program = random_program(source, source.randint(0, 3), 0.4)
            self.check_all(form, program, random_uses(source, len(program)), source.choice([8, 9, 13]))
        for line in (8, 64):
            self.check_all(even_form(4, 12), [("tell", "a"), ("jump", 0)], [1, 1], line)

    def test_other_lines_uses_programs_and_forms(self):
        source = random.Random(192)
        right = wrong = 0
        for _ in range(60):
            form = random_form(source)
            program = random_program(source, 3, 0.4)
            uses = random_uses(source, 3)
            line = source.choice([8, 16, 20])
            paper = line_prices(form, program, uses, line)
            for length in (line - 1, line + 1, 2 * line):
                self.assertIs(shows_prices(form, program, uses, length, paper), False)
            at = source.randrange(3)
            other = uses[:at] + [uses[at] + 1] + uses[at + 1:]
            self.assertIs(shows_prices(form, program, other, line, paper), False)
            for asked in ((form, program[::-1], uses), (form, program, uses[::-1]), (random_form(source), program, uses)):
                shown = shows_prices(*asked, line, paper)
                self.assertIs(shown, same(paper, prices_by_hand(*asked, line)))
                right, wrong = right + shown, wrong + (not shown)
        self.assertGreater(right, 20)
        self.assertGreater(wrong, 20)

    def test_wrong_things(self):
        form = even_form(4, 10)
        for program, uses in (([], []), ([("stop",)], [1]), ([("jump", 0), ("tell", "a")], [0, 0])):
            for thing in odd_things() + [[], [[], []], [[[]]], [[0]], [[0] * 8] * 9, [(0,) * 8], ([0] * 8,), ([[0] * 8],), "0", [["0"] * 8]]:
                self.assertIs(shows_prices(form, program, uses, 8, thing), False, thing)

    def test_200_rows(self):
        source = random.Random(193)
        form = even_form(8, 16)
        program = random_program(source, 200, 0.3)
        uses = [10 ** 12 - at for at in range(200)]
        paper = line_prices(form, program, uses, 64)
        self.assertEqual(paper[0][0], laid(form, program, uses, 64)[2])
        self.assertIs(shows_prices(form, program, uses, 64, paper), True)
        for at, start in ((0, 0), (0, 63), (100, 7), (199, 0), (200, 0), (200, 63)):
            for more in (1, -1):
                spoilt = [row[:] for row in paper]
                spoilt[at][start] += more
                self.assertIs(shows_prices(form, program, uses, 64, spoilt), False)

    def test_own(self):
        form = even_form(4, 12)
        program, uses = [("tell", "a"), ("jump", 0)], [5, 2]
        paper = line_prices(form, program, uses, 16)
        for thing in (paper, paper[:1], [[]], [tuple(paper[0]), paper[1]], None):
            check_own(self, shows_prices, form, program[:], uses[:], 16, thing)


if __name__ == "__main__":
    unittest.main()
