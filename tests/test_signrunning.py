import random
import unittest

from oddlong.bare import bare_at, put_bare
from oddlong.errors import BadText, TooFar
from oddlong.making import made
from oddlong.running import run_rows
from oddlong.signrunning import heard, lines_heard, run_signs
from tests.helper import Spots, Table, check_own, even_form, random_form, random_program, runs_of_rows, same, some_bares, written_bare

EVEN = even_form(4, 9)
TABLE = Table(EVEN)


class ByAsking:
    """Reads bare rows as bare_at does, for forms with too many of them for a table."""

    def __init__(self, form):
        self.form = form

    def read(self, text, place):
        try:
            return bare_at(self.form, text, place)
        except BadText:
            return None


def run_by_words(table, text, given, steps):
    """What a run tells, and the places and ends of the bare rows done as steps."""
    spots = Spots(given)
    place, spans = 0, []
    while True:
        found = table.read(text, place)
        while found and found[0][0] == "skip":
            place = found[1]
            found = table.read(text, place)
        if place == len(text):
            return spots.answer("stopped", place), spans
        if len(spans) == steps:
            return spots.answer("going", place), spans
        if found is None:
            return spots.answer("lost", place), spans
        bare, end = found
        spans.append((place, end))
        if bare == ("stop",):
            return spots.answer("stopped", place), spans
        place = end + bare[-1] if spots.do(bare) else end


def fetched_sign_by_sign(spans, line):
    kept, many = None, 0
    for place, end in spans:
        for sign in range(place, end):
            if sign // line != kept:
                kept = sign // line
                many += 1
    return many


def text_of(form, bares):
    return "".join(put_bare(form, bare) for bare in bares)


class SignsCase(unittest.TestCase):
    def check(self, form, table, text, given, steps, lines=(8, 13, 64)):
        """All that is told of a run, beside the words; how it ends."""
        answer, spans = run_by_words(table, text, given, steps)
        self.assertTrue(same(run_signs(form, text, given, steps), answer), (text, steps))
        self.assertTrue(same(heard(form, text, given, steps), [place for place, end in spans]), (text, steps))
        for line in lines:
            self.assertTrue(same(lines_heard(form, text, given, steps, line), fetched_sign_by_sign(spans, line)), (text, steps, line))
        return answer

    def tells(self, bares, steps, answer, behind="", given=()):
        """A run of even_form(4, 9)."""
        text = text_of(EVEN, bares) + behind
        self.assertTrue(same(run_signs(EVEN, text, list(given), steps), answer), (bares, steps))
        self.check(EVEN, TABLE, text, list(given), steps)


class RunSignsTest(SignsCase):
    def test_the_empty_text(self):
        for steps in (0, 1, 5000):
            self.assertTrue(same(run_signs(EVEN, "", [], steps), ([], "stopped", (0, 0, 0, 0), 0)))
            self.assertTrue(same(heard(EVEN, "", [], steps), []))
            self.assertTrue(same(lines_heard(EVEN, "", [], steps, 8), 0))

    def test_stopped_ahead_of_going_ahead_of_lost(self):
        nothing = (0, 0, 0, 0)
        self.tells([], 0, ([], "going", nothing, 0), behind="1111")
        self.tells([], 1, ([], "lost", nothing, 0), behind="1111")
        self.tells([("stop",)], 0, ([], "going", nothing, 0))
        self.tells([("stop",)], 1, ([], "stopped", nothing, 0))
        self.tells([("tell", "a")], 1, ([0], "stopped", nothing, 6))
        self.tells([("tell", "a")], 2, ([0], "stopped", nothing, 6))
        self.tells([("tell", "a")], 1, ([0], "going", nothing, 6), behind="0")
        self.tells([("tell", "a")], 2, ([0], "lost", nothing, 6), behind="0")
        self.tells([("tell", "a"), ("stop",)], 1, ([0], "going", nothing, 6))
        self.tells([("tell", "a"), ("stop",)], 2, ([0], "stopped", nothing, 6), behind="0")

    def test_skip_rows_are_no_steps(self):
        nothing = (0, 0, 0, 0)
        for many in range(8):
            skip = ("skip", many)
            size = 7 + many
            self.tells([skip], 0, ([], "stopped", nothing, size))
            self.tells([skip, skip, skip], 0, ([], "stopped", nothing, 3 * size))
            self.tells([skip, skip], 0, ([], "going", nothing, 2 * size), behind="1")
            self.tells([skip, skip], 1, ([], "lost", nothing, 2 * size), behind="1")
            self.tells([skip, ("stop",)], 0, ([], "going", nothing, size))
            self.tells([skip, ("stop",)], 1, ([], "stopped", nothing, size))
            self.tells([("tell", "b"), skip], 1, ([0], "stopped", nothing, 6 + size))
            self.tells([("tell", "b"), skip, skip, ("tell", "c")], 1, ([0], "going", nothing, 6 + 2 * size))
            self.tells([("tell", "b"), skip, skip, ("tell", "c"), skip], 2, ([0, 0], "stopped", nothing, 12 + 3 * size))

    def test_jumps_that_go_on_at_a_skip_row(self):
        nothing = (0, 0, 0, 0)
        self.tells([("jump", 4), ("stop",), ("skip", 2), ("tell", "a"), ("stop",)], 1, ([], "going", nothing, 21))
        self.tells([("jump", 4), ("stop",), ("skip", 2), ("tell", "a"), ("stop",)], 3, ([0], "stopped", nothing, 27))
        self.tells([("jump", 4), ("stop",), ("skip", 2)], 1, ([], "stopped", nothing, 21))
        self.tells([("skip", 0), ("farjump", -20)], 5, ([], "going", nothing, 7))
        self.tells([("skip", 0), ("skip", 1), ("farjump", -21)], 5, ([], "going", nothing, 15))

    def test_jumps_elsewhere(self):
        nothing = (0, 0, 0, 0)
        for kind, middle in (("jump", ()), ("zero", ("c",)), ("farjump", ()), ("farzero", ("a",))):
            def bare(distance):
                return (kind,) + middle + (distance,)

            size = len(put_bare(EVEN, bare(0)))
            # A far one back over more than its own signs is below 0; a near one has no such distance.
            if kind.startswith("far"):
                for below in (1, 2, 7, 30):
                    self.tells([bare(-size - below)], 1, ([], "going", nothing, -below))
                    self.tells([bare(-size - below)], 2, ([], "lost", nothing, -below))
                    self.tells([bare(-size - below), ("stop",)], 2, ([], "lost", nothing, -below))
                self.tells([bare(-size)], 9, ([], "going", nothing, 0))
            for beyond in (1, 2, 7):
                self.tells([bare(beyond)], 1, ([], "going", nothing, size + beyond))
                self.tells([bare(beyond)], 2, ([], "lost", nothing, size + beyond))
            self.tells([bare(4), ("stop",)], 1, ([], "stopped", nothing, size + 4))
            self.tells([bare(5), ("stop",)], 2, ([], "lost", nothing, size + 5))
            self.tells([bare(0)], 1, ([], "stopped", nothing, size))

    def test_jumps_into_the_midst_of_a_row(self):
        nothing = (0, 0, 0, 0)
        # Behind the tell row's first sign "0110", "10" and the signs behind are read as a zero row.
        self.tells([("jump", 1), ("tell", "b")], 1, ([], "going", nothing, 9), behind="00000")
        self.tells([("jump", 1), ("tell", "b")], 2, ([], "stopped", nothing, 19), behind="00000")
        self.tells([("jump", 1), ("tell", "b")], 2, ([], "lost", nothing, 9), behind="0000")
        # The last figures of a number are read as a stop row.
        self.tells([("farjump", 13), ("set", "a", 0b10000111), ("tell", "a")], 1, ([], "going", nothing, 26))
        self.tells([("farjump", 13), ("set", "a", 0b10000111), ("tell", "a")], 2, ([], "stopped", nothing, 26))
        # Those of a distance are read as an ask row.
        self.tells([("farjump", 7), ("farjump", 0b010010), ("tell", "c")], 3, ([7], "stopped", (0, 0, 7, 0), 32), given=[7])

    def test_a_jump_back_by_as_many_signs_as_the_text_has_is_below_nought(self):
        # Read from the text's end there would be a stop row.
        text = text_of(EVEN, [("farjump", -17), ("stop",)])
        self.assertTrue(same(run_signs(EVEN, text, [], 2), ([], "lost", (0, 0, 0, 0), -4)))
        self.assertTrue(same(heard(EVEN, text, [], 2), [0]))

    def test_made_texts_run_as_the_rows_do(self):
        source = random.Random(161)
        many = 0
        while many < 200:
            form = random_form(source)
            program = random_program(source, source.randint(0, 12), source.choice([0.1, 0.3, 0.6]))
            try:
                text, places, fars = made(form, program)
            except TooFar:
                continue
            many += 1
            given = [source.choice([0, 0, 1, source.randrange(256)]) for _ in range(source.randint(0, 6))]
            for steps, (told, how, numbers, at) in enumerate(runs_of_rows(program, given, 25)):
                self.assertTrue(same(run_signs(form, text, given, steps), (told, how, numbers, places[at])))
            self.assertTrue(same(run_rows(program, given, 25), (told, how, numbers, at)))

    def test_200_rows_5000_steps_200_numbers_given(self):
        source = random.Random(162)
        for _ in range(12):
            form = random_form(source, most_far=16, near=source.choice([6, 8]))
            form = form if form.far > 13 else even_form(source.randint(2, 8), 16)
            program = [("tell", "a") if row == ("stop",) else row for row in random_program(source, 199, 0.2)] + [("jump", 0)]
            given = [source.randrange(256) for _ in range(200)]
            text, places, fars = made(form, program)
            answers = runs_of_rows(program, given, 5000)
            for steps in (0, 1, 250, 5000):
                told, how, numbers, at = answers[steps]
                self.assertTrue(same(run_signs(form, text, given, steps), (told, how, numbers, places[at])))

    def test_any_texts(self):
        source = random.Random(163)
        ends = {}
        for _ in range(25):
            form = random_form(source, most_far=8)
            table = Table(form)
            for _ in range(30):
                bares = some_bares(source, form, source.randint(1, 12))
                if source.random() < 0.5:
                    bares = [bare for bare in bares if bare != ("stop",)]
                text = "".join(written_bare(form, bare) for bare in bares)
                if text and source.random() < 0.4:
                    at = source.randrange(len(text))
                    text = source.choice([text[:at], text[:at] + source.choice("01") + text[at + 1:], text[at:]])
                given = [source.randrange(3) for _ in range(source.randint(0, 4))]
                for steps in (0, 1, 2, 3, 5, 8, 30):
                    how = self.check(form, table, text, given, steps)[1]
                    ends[how] = ends.get(how, 0) + 1
        self.assertGreater(min(ends[how] for how in ("stopped", "going", "lost")), 300, ends)

    def test_texts_of_any_signs(self):
        source = random.Random(164)
        for _ in range(10):
            form = random_form(source, most_far=7)
            table = Table(form)
            for _ in range(60):
                text = "".join(source.choices("01", k=source.randint(1, 60)))
                for steps in (0, 1, 4, 20):
                    self.check(form, table, text, [1, 2], steps)

    def test_made_texts_cut_and_spoilt(self):
        source = random.Random(165)
        text = made(EVEN, [("ask", "a"), ("zero", "a", 5), ("tell", "a"), ("take", "a", "b"), ("jump", 0), ("stop",)])[0]
        for at in range(len(text)):
            for other in (text[:at], text[:at] + ("1" if text[at] == "0" else "0") + text[at + 1:]):
                for steps in (0, 1, 2, 3, 4, 5, 20):
                    self.check(EVEN, TABLE, other, [3, source.randrange(3)], steps)

    def test_20000_signs_of_skip_rows(self):
        form = even_form(8, 16)
        for many in (0, 1, 7):
            skip = put_bare(form, ("skip", many))
            rows = (20000 - 40) // len(skip)
            skips = skip * rows
            for steps in (0, 1, 5000):
                self.assertTrue(same(run_signs(form, skips, [], steps), ([], "stopped", (0, 0, 0, 0), len(skips))))
                self.assertTrue(same(heard(form, skips, [], steps), []))
            # Round and round over all of them.
            text = skips + put_bare(form, ("farjump", -20 - len(skips)))
            self.assertTrue(same(run_signs(form, text, [], 5000), ([], "going", (0, 0, 0, 0), len(skips))))
            self.assertTrue(same(heard(form, text, [], 5000), [len(skips)] * 5000))
            for line in (8, 64):
                self.assertEqual(lines_heard(form, text, [], 5000, line), fetched_sign_by_sign([(len(skips), len(text))] * 5000, line))

    def test_rounds_that_go_on_at_many_skip_rows(self):
        source = random.Random(167)
        form = even_form(8, 16)
        text = put_bare(form, ("skip", 0)) * 500
        # Each farzero row goes back to another one of the skip rows; where the number isn't nought it goes on to the next.
        for at in range(40):
            text += put_bare(form, ("ask", "a"))
            text += put_bare(form, ("farzero", "a", 7 * source.randrange(500) - len(text) - 22))
        for share in (0.1, 0.3, 0.9):
            given = [int(source.random() > share) for _ in range(200)]
            for steps in (0, 1, 2, 150):
                self.check(form, ByAsking(form), text, given, steps)

    def test_own(self):
        text = made(EVEN, [("ask", "a"), ("tell", "a"), ("zero", "b", 0)])[0]
        for steps in (0, 2, 9):
            for whole in (text, "", text[:-1], "1111"):
                check_own(self, run_signs, EVEN, whole, [1, 2], steps)
                check_own(self, heard, EVEN, whole, [1, 2], steps)
                check_own(self, lines_heard, EVEN, whole, [1, 2], steps, 8)


class HeardTest(SignsCase):
    def test_written_out(self):
        bares = [("tell", "a"), ("skip", 1), ("jump", 4), ("stop",), ("ask", "b"), ("stop",)]
        text = text_of(EVEN, bares)
        for steps, places in ((0, []), (1, [0]), (2, [0, 14]), (3, [0, 14, 26]), (4, [0, 14, 26, 32]), (5, [0, 14, 26, 32])):
            self.assertTrue(same(heard(EVEN, text, [5], steps), places))
        # The rows have the signs 0 to 5, 14 to 21, 26 to 31, 32 to 35.
        for line, fetched in ((8, [0, 1, 3, 4, 5]), (16, [0, 1, 2, 2, 3]), (36, [0, 1, 1, 1, 1]), (64, [0, 1, 1, 1, 1])):
            for steps, many in enumerate(fetched):
                self.assertTrue(same(lines_heard(EVEN, text, [5], steps, line), many), (line, steps))

    def test_a_row_over_several_lines(self):
        form = even_form(8, 16)
        text = text_of(form, [("farzero", "a", -22)])
        for line, many in ((8, 3), (16, 2), (21, 2), (22, 1), (64, 1)):
            self.assertTrue(same(lines_heard(form, text, [], 1, line), many))
            self.assertTrue(same(lines_heard(form, text, [], 5, line), 5 * many if many > 1 else 1))

    def test_lost_and_going_rows_are_not_heard(self):
        text = text_of(EVEN, [("tell", "a")]) + "1111"
        for steps, places in ((0, []), (1, [0]), (2, [0]), (9, [0])):
            self.assertTrue(same(heard(EVEN, text, [], steps), places))
            self.assertTrue(same(lines_heard(EVEN, text, [], steps, 8), len(places)))

    def test_lines_of_8_to_64_signs(self):
        source = random.Random(166)
        form = even_form(4, 16)
        for _ in range(60):
            program = random_program(source, source.randint(1, 14), 0.4)
            text, places, fars = made(form, program)
            ends = dict(zip(places, places[1:]))
            spans = [(place, ends[place]) for place in heard(form, text, [1, 0, 2], 60)]
            for line in range(8, 65):
                self.assertTrue(same(lines_heard(form, text, [1, 0, 2], 60, line), fetched_sign_by_sign(spans, line)))


if __name__ == "__main__":
    unittest.main()
