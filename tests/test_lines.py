import itertools
import random
import unittest

from oddlong.errors import OddError, TooFar
from oddlong.forms import Form
from oddlong.lines import laid, line_prices
from oddlong.signrunning import heard, run_signs
from tests.helper import (KINDS, bare_row, check_own, distances, even_form, figures, jump_places, lines_of, random_form, random_program,
                          random_uses, runs_of_rows, same, sizes_of, skip_sizes, sum_forwards, written_bare)


def sum_of(sizes, places, uses, line):
    return sum(use * lines_of(place, size, line) for use, place, size in zip(uses, places, sizes))


def layouts(form, program, start=0):
    """The places, and the end, of all layouts."""
    sizes = sizes_of(form, program)
    for pads in itertools.product(skip_sizes(form), repeat=len(program)):
        places, end = [], start
        for pad, size in zip(pads, sizes):
            places.append(end + pad)
            end += pad + size
        yield places + [end]


def missed_jumps(form, program, places):
    sizes = sizes_of(form, program)
    return [at for at in jump_places(program) if places[program[at][-1]] - places[at] - sizes[at] not in distances(form.far)]


class LaidTest(unittest.TestCase):
    def refused(self, form, program, uses, line):
        """The row that is told where it's refused; None where not."""
        try:
            laid(form, program, uses, line)
        except TooFar as refusal:
            self.assertIsInstance(refusal, OddError)
            return refusal.row
        return None

    def check_told(self, form, program, uses, line, least):
        """What is told where it isn't refused: a layout with these places, of this sum."""
        text, places, number = told = laid(form, program, uses, line)
        self.assertIsInstance(told, tuple)
        self.assertIsInstance(places, list)
        self.assertTrue(same(number, least), (program, uses, line))
        self.assertEqual(len(places), len(program) + 1)
        self.assertTrue(all(place.__class__ is int for place in places))
        skips = {""} | {written_bare(form, ("skip", many)) for many in range(8)}
        end = 0
        for row, place, size in zip(program, places, sizes_of(form, program)):
            self.assertIn(text[end:place], skips)
            end = place + size
            distance = places[row[-1]] - end if row[0] in ("jump", "zero") else 0
            self.assertIn(distance, distances(form.far))
            self.assertEqual(text[place:end], written_bare(form, bare_row(row, True, distance)))
        self.assertEqual((end, end), (len(text), places[-1]))
        self.assertEqual(sum_of(sizes_of(form, program), places, uses, line), number)
        self.assertTrue(same(line_prices(form, program, uses, line)[0][0], number))
        return text, places

    def check(self, form, program, uses, line):
        """Beside all layouts; whether it's refused."""
        sizes = sizes_of(form, program)
        sums = [(sum_of(sizes, places, uses, line), places) for places in layouts(form, program)]
        least = min(total for total, places in sums)
        missed = [missed_jumps(form, program, places) for total, places in sums if total == least]
        row = self.refused(form, program, uses, line)
        if row is None:
            self.assertIn([], missed)
            self.check_told(form, program, uses, line, least)
        else:
            self.assertTrue(row.__class__ is int)
            self.assertIn(row, [jumps[0] for jumps in missed if jumps])
        return row is not None

    def test_the_empty_program(self):
        for line in (8, 9, 64):
            self.assertTrue(same(laid(even_form(), [], [], line), ("", [0], 0)))
            self.assertTrue(same(line_prices(even_form(), [], [], line), [[0] * line]))

    def test_written_out(self):
        form = even_form(4, 10)
        # Straight behind the stop row's four signs the tell row's six lie in two lines of 8; a skip row mends it.
        for uses, least in (([1, 1], 2), ([5, 3], 8), ([0, 3], 3), ([5, 0], 5), ([0, 0], 0)):
            self.check_told(form, [("stop",), ("tell", "a")], uses, 8, least)
        self.check_told(form, [("jump", 0)], [4], 8, 8)
        self.check_told(form, [("jump", 0)], [4], 13, 8)
        self.check_told(form, [("jump", 0)], [4], 14, 4)
        # The far jump's 14 signs lie in one line of 16 just from 0, 1 and 2 on; a skip row has 7 to 14 signs.
        self.assertTrue(same(line_prices(form, [("jump", 1)], [3], 16), [[3] * 12 + [6] * 4, [0] * 16]))

    def test_beside_all_layouts(self):
        source = random.Random(171)
        ends = {True: 0, False: 0}
        for _ in range(200):
            form = random_form(source, most_far=source.choice([5, 16]))
            program = random_program(source, source.randint(0, 3), source.choice([0, 0.5, 1]))
            uses = random_uses(source, len(program))
            ends[self.check(form, program, uses, source.choice([8, 9, 13, 16, 32, 64, source.randint(8, 64)]))] += 1
        self.assertGreater(min(ends.values()), 20)

    def test_beside_all_layouts_of_four_rows(self):
        source = random.Random(172)
        for _ in range(8):
            form = random_form(source)
            program = random_program(source, 4, 0.3)
            self.check(form, program, random_uses(source, 4), source.choice([8, 16, 24, 40]))

    def test_skip_rows_that_pay(self):
        source = random.Random(173)
        form = even_form(4, 12)
        padded = 0
        for _ in range(40):
            program = random_program(source, 3, 0.3)
            uses = [source.randint(1, 9) for _ in program]
            for line in (18, 22, 32):
                if not self.check(form, program, uses, line):
                    padded += laid(form, program, uses, line)[1][-1] > sum(sizes_of(form, program))
        self.assertGreater(padded, 30)

    def test_uses_of_nought_alike_and_great(self):
        source = random.Random(174)
        for _ in range(10):
            form = even_form(4, 12)
            program = random_program(source, 3, 0.4)
            for uses in ([0] * 3, [1] * 3, [10 ** 12] * 3, [0, 10 ** 12, 1], [1, 0, 0], [0, 0, 1]):
                for line in (8, 20, 32):
                    self.check(form, program, uses, line)

    def test_too_far(self):
        form = even_form(3, 6)
        long = [("set", "a", 255)] * 4
        for program, row in ((long + [("jump", 0)], 4), ([("jump", 5)] + long, 0), ([("jump", 1), ("zero", "a", 6)] + long, 1),
                             ([("stop",), ("jump", 6)] + long + [("jump", 0), ("jump", 7)], 1)):
            for line in (8, 16, 64):
                for uses in ([0] * len(program), [1] * len(program)):
                    self.assertTrue(same(self.refused(form, program, uses, line), row))

    def test_jumps_at_the_bounds(self):
        for far in range(6, 13):
            form = even_form(4, far)
            half = 2 ** (far - 1)
            for rows in range(max(1, half // 4 - 6), half // 4 + 3):
                uses = [0] * (rows + 1)
                # With uses of nought every layout has the least sum: it must be refused where the jump is missed without skip rows.
                for program, missed in (([("jump", rows + 1)] + [("stop",)] * rows, 4 * rows >= half),
                                        ([("stop",)] * rows + [("jump", 0)], 4 * rows + 4 + far > half)):
                    row = self.refused(form, program, uses, 16)
                    if row is None:
                        self.assertFalse(missed)
                        self.check_told(form, program, uses, 16, 0)
                    else:
                        self.assertEqual(row, jump_places(program)[0])

    def test_200_rows(self):
        source = random.Random(175)
        for line in (8, 16, 33, 64):
            for jumps in (0, 0.3):
                form = random_form(source)
                form = form if form.far > 14 else even_form(source.randint(2, 8), 16)
                program = random_program(source, 200, jumps)
                uses = random_uses(source, 200)
                self.check_told(form, program, uses, line, sum_forwards(form, program, uses, line, 0))

    def test_laid_texts_run_as_the_rows_do(self):
        source = random.Random(176)
        for _ in range(150):
            form = even_form(source.randint(2, 8), 16) if source.random() < 0.5 else random_form(source)
            program = random_program(source, source.randint(0, 12), source.choice([0.1, 0.3, 0.6]))
            uses = random_uses(source, len(program))
            line = source.randint(8, 64)
            if self.refused(form, program, uses, line) is not None:
                continue
            text, places, number = laid(form, program, uses, line)
            given = [source.choice([0, 0, 1, source.randrange(256)]) for _ in range(source.randint(0, 6))]
            for steps, (told, how, numbers, at) in enumerate(runs_of_rows(program, given, 25)):
                self.assertTrue(same(run_signs(form, text, given, steps), (told, how, numbers, places[at])))
            self.assertTrue(all(place in places[:-1] for place in heard(form, text, given, 25)))

    def test_long_codes(self):
        # The skip rows have 27 signs or more, the other rows more than a line.
        kinds = [(name, figures(at, 24)) for at, name in enumerate(KINDS)]
        even = even_form()
        form = Form(kinds, even.spots, even.sizes, 8, 16)
        for line in (8, 24, 25, 30, 64):
            for program in ([("stop",)] * 3, [("jump", 0), ("stop",), ("zero", "a", 1)], [("tell", "a"), ("jump", 3), ("set", "a", 200)]):
                self.check(form, program, [3, 5, 2], line)

    def test_own(self):
        for form in (even_form(4, 12), even_form(2, 5)):
            for program, uses in (([], []), ([("stop",), ("jump", 0)], [1, 2]), ([("tell", "a"), ("zero", "b", 3), ("jump", 0)], [5, 0, 9])):
                for line in (8, 16):
                    check_own(self, laid, form, program[:], uses[:], line)
                    check_own(self, line_prices, form, program[:], uses[:], line)


class PricesTest(unittest.TestCase):
    def check_shape(self, form, program, uses, line):
        prices = line_prices(form, program, uses, line)
        self.assertIsInstance(prices, list)
        self.assertEqual(len(prices), len(program) + 1)
        self.assertTrue(all(isinstance(row, list) and len(row) == line for row in prices))
        self.assertTrue(all(price.__class__ is int for row in prices for price in row))
        self.assertEqual(prices[-1], [0] * line)
        return prices

    def test_beside_all_layouts(self):
        source = random.Random(181)
        for _ in range(12):
            form = random_form(source, most_far=source.choice([5, 16]))
            program = random_program(source, source.randint(1, 2), 0.5)
            uses = random_uses(source, len(program))
            line = source.choice([8, 11, 16, 24])
            prices = self.check_shape(form, program, uses, line)
            for at in range(len(program) + 1):
                rest, sizes = program[at:], sizes_of(form, program[at:])
                for start in range(line):
                    least = min(sum_of(sizes, places, uses[at:], line) for places in layouts(form, rest, start))
                    self.assertTrue(same(prices[at][start], least))

    def test_beside_sums_forwards(self):
        source = random.Random(182)
        for many in (1, 3, 8, 20):
            for line in (8, 17, 32, 64):
                form = random_form(source)
                program = random_program(source, many, 0.4)
                uses = random_uses(source, many)
                prices = self.check_shape(form, program, uses, line)
                for at in source.sample(range(many + 1), min(many + 1, 4)):
                    for start in range(0, line, 3):
                        self.assertTrue(same(prices[at][start] if at < many else 0,
                                             sum_forwards(form, program[at:], uses[at:], line, start)))

    def test_jumps_that_are_missed_have_prices(self):
        form = even_form(3, 6)
        program = [("set", "a", 255)] * 4 + [("jump", 0)]
        prices = self.check_shape(form, program, [1] * 5, 16)
        self.assertTrue(same(prices[0][0], sum_forwards(form, program, [1] * 5, 16, 0)))

    def test_200_rows(self):
        source = random.Random(183)
        form = even_form(8, 16)
        program = random_program(source, 200, 0.3)
        uses = random_uses(source, 200)
        prices = self.check_shape(form, program, uses, 64)
        for at, start in ((0, 0), (0, 63), (100, 7), (199, 5), (200, 9)):
            self.assertTrue(same(prices[at][start], sum_forwards(form, program[at:], uses[at:], 64, start)))


if __name__ == "__main__":
    unittest.main()
