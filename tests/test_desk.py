import random
import unittest
from unittest import mock

from oddlong import desk
from oddlong.bare import bares_of
from oddlong.carrying import carried
from oddlong.desk import answered, sheet_of
from oddlong.errors import BadRow, BadText, NoTarget
from oddlong.lines import laid
from oddlong.making import made
from oddlong.sheet import read_program, written_program
from oddlong.signrunning import run_signs
from oddlong.uses import least_form
from tests.helper import (check_own, even_form, program_by_hand, random_form, random_program, random_uses, runs_of_rows, same, some_jumping_bares,
                          told, written_bare)

ECHO = "loop:\nask a\nzero a end\ntell a\njump loop\nend:"


class AnsweredTest(unittest.TestCase):
    def test_written_out(self):
        self.assertTrue(same(answered(ECHO, [5, 7], 100), "5 7 stopped"))
        self.assertTrue(same(answered(ECHO, [], 100), "stopped"))
        self.assertTrue(same(answered(ECHO, [5, 7], 3), "5 going"))
        self.assertTrue(same(answered(ECHO, [5, 7], 0), "going"))
        self.assertTrue(same(answered("", [5], 0), "stopped"))
        self.assertTrue(same(answered("a:\njump a", [], 5000), "going"))
        self.assertTrue(same(answered("stop", [], 0), "going"))
        self.assertTrue(same(answered("stop", [], 1), "stopped"))
        self.assertTrue(same(answered("tell a\nset b 255\ntell b\nadd b b\ntell b\ntake a b\ntell a", [], 7), "0 255 254 2 stopped"))

    def test_it_is_made_by_its_least_form_and_run_by_signs(self):
        # No answer shows the form, so what is asked of the other parts is looked at.
        program = read_program(ECHO)
        with mock.patch.object(desk, "least_form", wraps=least_form) as formed, mock.patch.object(desk, "run_signs", wraps=run_signs) as ran:
            self.assertEqual(desk.answered(ECHO, [5, 7], 100), "5 7 stopped")
        formed.assert_called_once_with(program, 8, 4, 16)
        ran.assert_called_once()
        form, text, given, steps = ran.call_args.args
        self.assertEqual((text, given, steps), (made(form, program)[0], [5, 7], 100))

    def test_beside_the_rows(self):
        source = random.Random(391)
        ends = {}
        for _ in range(250):
            program = random_program(source, source.choice([0, 1, 4, 10, 30]), source.choice([0.1, 0.3, 0.6]))
            given = [source.choice([0, 0, 1, 255, source.randrange(256)]) for _ in range(source.randint(0, 10))]
            for steps, (numbers, how, spots, at) in enumerate(runs_of_rows(program, given, 25)):
                expected = "".join(str(number) + " " for number in numbers) + how
                self.assertTrue(same(answered(written_program(program), given, steps), expected), (program, given, steps))
                ends[how] = ends.get(how, 0) + 1
        self.assertGreater(min(ends.get(how, 0) for how in ("stopped", "going")), 300)

    def test_programs_with_far_jumps(self):
        # Distances near and far, ahead and back, of 200 rows.
        rows = ["jump start", "end:", "tell b", "stop", "start:", "ask a", "zero a end"] + ["set d 255", "add b a"] * 97 + ["jump start"]
        text = "\n".join(rows)
        program = read_program(text)
        self.assertEqual(len(program), 200)
        for given in ([], [1], [1, 2], [200, 100]):
            numbers, how, spots, at = runs_of_rows(program, given, 1000)[-1]
            self.assertEqual(answered(text, given, 1000), f"{sum(given) * 97 % 256} stopped")
            self.assertEqual((numbers, how), ([sum(given) * 97 % 256], "stopped"))

    def test_200_rows(self):
        source = random.Random(392)
        for jumps in (0.1, 0.5, 1):
            program = random_program(source, 200, jumps)
            given = [source.randrange(256) for _ in range(200)]
            numbers, how, spots, at = runs_of_rows(program, given, 5000)[-1]
            self.assertEqual(answered(written_program(program), given, 5000), " ".join([str(number) for number in numbers] + [how]))

    def test_many_numbers_told(self):
        given = [1 + at % 255 for at in range(200)]
        self.assertEqual(answered(ECHO, given, 5000), " ".join([str(number) for number in given] + ["stopped"]))
        self.assertEqual(answered("a:\ntell a\njump a", [], 5000), "0 " * 2500 + "going")

    def test_refused_as_read_program(self):
        for text in (" ", "stop\nstopp", "jump a", "a:\na:", "set a 256", "\n".join(["stop"] * 201), "stop\n\njump b\nset a 01"):
            expected = told(read_program, (text,))
            self.assertEqual(expected[:2], ("refused", "BadRow"))
            for steps in (0, 100):
                self.assertEqual(told(answered, (text, [1], steps)), expected)
        with self.assertRaises(BadRow):
            answered("stopp", [], 0)

    def test_own(self):
        for text in (ECHO, "", "stopp"):
            check_own(self, answered, text, [5, 7], 20)


class SheetOfTest(unittest.TestCase):
    def test_written_out(self):
        form = even_form(4, 10)
        self.assertTrue(same(sheet_of(form, ""), ""))
        text = "".join(written_bare(form, bare) for bare in [("skip", 0), ("farjump", -21), ("stop",), ("skip", 1)])
        self.assertTrue(same(sheet_of(form, text), "laa:\njump laa\nstop"))
        self.assertTrue(same(sheet_of(form, made(form, read_program(ECHO))[0]), ECHO.replace("loop", "laa").replace("end", "lab")))

    def test_made_laid_and_carried_texts(self):
        source = random.Random(393)
        many = {"made": 0, "laid": 0, "carried": 0}
        for _ in range(150):
            form, other = random_form(source), random_form(source)
            program = random_program(source, source.randint(0, 14), source.choice([0.1, 0.4]))
            answers = {"made": told(made, (form, program)), "laid": told(laid, (form, program, random_uses(source, len(program)), 24))}
            if answers["made"][0] != "refused":
                answers["carried"] = told(carried, (form, other, answers["made"][0]))
            for kind, answer in answers.items():
                if answer[0] != "refused":
                    many[kind] += 1
                    self.assertTrue(same(sheet_of(other if kind == "carried" else form, answer[0]), written_program(program)))
        self.assertGreater(min(many.values()), 40, many)

    def test_any_texts_and_refusals(self):
        source = random.Random(394)
        ends = {}
        for _ in range(300):
            form = random_form(source, most_far=8)
            bares, places = some_jumping_bares(source, form, source.randint(0, 8), source.choice([0, 0.3]))
            text = "".join(written_bare(form, bare) for bare in bares)
            if source.random() < 0.3:
                text = text[:-1] + source.choice(["", "0", "1", "11"])
            bad = told(bares_of, (form, text))
            expected = bad
            if isinstance(bad, list):
                program = program_by_hand([bare for place, bare in bad], [place for place, bare in bad] + [len(text)])
                expected = written_program(program) if isinstance(program, list) else ("refused", "NoTarget", {"place": program})
            self.assertTrue(same(told(sheet_of, (form, text)), expected))
            kind = expected[1] if isinstance(expected, tuple) else "told"
            ends[kind] = ends.get(kind, 0) + 1
        self.assertTrue(all(ends.get(kind, 0) > 20 for kind in ("told", "BadText", "NoTarget")), ends)
        form = even_form(4, 10)
        with self.assertRaises(BadText):
            sheet_of(form, "1")
        with self.assertRaises(NoTarget):
            sheet_of(form, written_bare(form, ("jump", 1)))

    def test_200_rows(self):
        source = random.Random(395)
        form = even_form(8, 16)
        for jumps in (0.2, 1):
            program = random_program(source, 200, jumps)
            self.assertTrue(same(sheet_of(form, made(form, program)[0]), written_program(program)))

    def test_own(self):
        form = even_form(4, 10)
        for text in ("", made(form, read_program(ECHO))[0], "1", written_bare(form, ("jump", 1))):
            check_own(self, sheet_of, form, text)


if __name__ == "__main__":
    unittest.main()
