"""What holds of the whole program, over several parts of it at once."""

import importlib
import inspect
import itertools
import random
import unittest

from oddlong import errors
from oddlong.bare import bares_of
from oddlong.books import free
from oddlong.carrying import carried, carried_place, parsed
from oddlong.desk import answered, sheet_of
from oddlong.farcheck import shows_far
from oddlong.least import layers_of, least_book, least_sum
from oddlong.leastcheck import shows_least
from oddlong.linecheck import shows_prices
from oddlong.lines import laid, line_prices
from oddlong.making import made, why_far
from oddlong.overlay import shows_none, stands_of, two_programs
from oddlong.readcheck import shows_one, shows_two
from oddlong.readings import rests_of, two_readings
from oddlong.rows import is_program
from oddlong.running import run_rows
from oddlong.sheet import read_program, written_program
from oddlong.signrunning import heard, run_signs
from oddlong.stepcheck import shows_ranks, shows_ring
from oddlong.stepping import greatest_delay, in_step, never_ring, ranks_of
from oddlong.texts import bounds_of, read_all, read_from, written
from oddlong.uses import least_form, size_of, uses_of
from tests.helper import (KINDS, SIZES, SPOTS, check_own, even_form, figures, free_books_of_many_kinds, jump_places, missed, names_of, random_book,
                          random_form, random_free_book, random_program, random_uses, runs_of_rows, same, sum_by_depths, told)

# How many arguments each takes, by files.
INTERFACE = {
    "books": {"is_book": 1, "free": 1, "clash": 1, "halves": 1, "codes_by": 1},
    "texts": {"written": 2, "read_all": 2, "bounds_of": 2, "read_from": 3},
    "readings": {"two_readings": 1, "rests_of": 1},
    "readcheck": {"shows_one": 2, "shows_two": 2},
    "least": {"least_book": 2, "least_sum": 2, "layers_of": 2},
    "leastcheck": {"shows_least": 4},
    "rows": {"is_program": 1},
    "forms": {"Form": 5},
    "bare": {"put_bare": 2, "bare_at": 3, "bares_of": 2},
    "making": {"places_by": 3, "made": 2, "why_far": 2, "far_sum": 2},
    "farcheck": {"shows_far": 4},
    "running": {"run_rows": 3},
    "signrunning": {"run_signs": 4, "heard": 4, "lines_heard": 5},
    "lines": {"laid": 4, "line_prices": 4},
    "linecheck": {"shows_prices": 5},
    "stepping": {"in_step": 3, "lags_of": 1, "never_ring": 1, "ranks_of": 1, "greatest_delay": 1},
    "stepcheck": {"shows_ring": 2, "shows_ranks": 2},
    "overlay": {"two_programs": 2, "stands_of": 2, "shows_none": 3},
    "carrying": {"parsed": 2, "carried": 3, "carried_place": 4},
    "uses": {"uses_of": 1, "least_form": 4, "size_of": 2},
    "sheet": {"read_program": 1, "written_program": 1},
    "desk": {"answered": 3, "sheet_of": 2},
    "errors": {"NoName": 1, "BadText": 1, "NoForm": 1, "TooFar": 1, "NoTarget": 1, "BadRow": 1},
    "shared": {},
}


def some_given(source):
    return [source.choice([0, 0, 1, source.randrange(256)]) for _ in range(source.randint(0, 8))]


class InterfaceTest(unittest.TestCase):
    def test_everything_is_there_under_its_name(self):
        for file, names in INTERFACE.items():
            module = importlib.import_module("oddlong." + file)
            for name, many in names.items():
                parameters = inspect.signature(getattr(module, name)).parameters.values()
                self.assertEqual(len(parameters), many, name)
                self.assertTrue(all(one.kind == one.POSITIONAL_OR_KEYWORD and one.default == one.empty for one in parameters), name)
        for name in ("OddError", "TooFull", "NoPlace"):
            self.assertTrue(issubclass(getattr(errors, name), ValueError))


class ReadBackTest(unittest.TestCase):
    def test_names(self):
        source = random.Random(401)
        for _ in range(150):
            book = random_free_book(source, source.randint(1, 40), 24)
            names = [source.choice(book)[0] for _ in range(source.randint(0, 60))]
            text = written(book, names)
            self.assertTrue(same(read_all(book, text), names))
            self.assertTrue(same(read_from(book, text, 0), (names, len(text))))

    def test_programs(self):
        source = random.Random(402)
        ways = {}
        for _ in range(200):
            form, other = random_form(source), random_form(source)
            program = random_program(source, source.randint(0, 16), source.choice([0.1, 0.4, 0.8]))
            self.assertTrue(same(read_program(written_program(program)), program))
            best = least_form(program, source.randint(4, 24), 4, 16)
            texts = {"made": (form, told(made, (form, program))), "least": (best, told(made, (best, program))),
                     "laid": (form, told(laid, (form, program, random_uses(source, len(program)), source.randint(8, 64))))}
            for way in ("made", "laid"):
                if texts[way][1][0] != "refused":
                    texts["carried " + way] = (other, told(carried, (form, other, texts[way][1][0])))
            for way, (use, answer) in texts.items():
                if answer[0] != "refused":
                    ways[way] = ways.get(way, 0) + 1
                    self.assertTrue(same(parsed(use, answer[0]), program))
                    self.assertTrue(same(read_program(sheet_of(use, answer[0])), program))
        self.assertGreater(min(ways[way] for way in ("made", "least", "laid", "carried made", "carried laid")), 40, ways)


class ReadingsTest(unittest.TestCase):
    def test_of_any_book_it_is_told_by_a_text_or_by_a_paper(self):
        source = random.Random(411)
        ends = {True: 0, False: 0}
        for _ in range(200):
            book = random_book(source, source.randint(1, 12), source.choice([3, 6, 12]))
            found = two_readings(book)
            ends[found is None] += 1
            self.assertIs(shows_one(book, rests_of(book)), found is None)
            self.assertIs(shows_two(book, found), found is not None)
        self.assertGreater(min(ends.values()), 30)

    def test_no_text_of_a_free_book_has_two(self):
        source = random.Random(412)
        for book in free_books_of_many_kinds(source, 20) + [list(random_form(source).kinds) for _ in range(10)]:
            self.assertTrue(free(book))
            self.assertIsNone(two_readings(book))
            self.assertTrue(same(rests_of(book), []))


class LeastTest(unittest.TestCase):
    def test_codes_told_as_least_have_the_least_sum_and_a_paper_shows_it(self):
        source = random.Random(421)
        for _ in range(60):
            many, most = source.randint(1, 20), source.randint(5, 24)
            uses = list(zip(names_of(many), [source.choice([0, 1, 7, 10 ** 12, source.randint(0, 99)]) for _ in range(many)]))
            self.check(uses, most, least_book(uses, most))

    def test_the_books_of_least_forms(self):
        source = random.Random(422)
        for _ in range(40):
            program = random_program(source, source.randint(0, 30), 0.4)
            most = source.randint(4, 24)
            form = least_form(program, most, 4, 16)
            for uses, book in zip(uses_of(program), (form.kinds, form.spots, form.sizes)):
                self.check(uses, most, list(book))
            if told(made, (form, program))[2] == []:
                self.assertEqual(size_of(form, program), len(made(form, program)[0]))

    def check(self, uses, most, book):
        least = sum_by_depths(uses, most)
        self.assertEqual(sum(use * len(dict(book)[name]) for name, use in uses), least)
        self.assertEqual(least_sum(uses, most), least)
        self.assertIs(shows_least(uses, most, least, layers_of(uses, most)), True)
        self.assertTrue(free(book) and max(len(code) for name, code in book) <= most)


class FarTest(unittest.TestCase):
    def check(self, form, program):
        """Whether the far jumps are in each list with which all near jumps are reached, and such a list themselves."""
        answer = told(made, (form, program))
        jumps = jump_places(program)
        lists = [list(some) for many in range(len(jumps) + 1) for some in itertools.combinations(jumps, many)]
        reached = [some for some in lists if not missed(form, program, some, [at for at in jumps if at not in some])]
        least = [at for at in jumps if all(at in some for some in reached)]
        self.assertIn(least, reached)
        if answer[0] == "refused":
            self.assertEqual(answer, ("refused", "TooFar", {"row": missed(form, program, least, least)[0]}))
            return None
        self.assertEqual(answer[2], least)
        self.assertIs(shows_far(form, program, least, why_far(form, program)), True)
        self.assertEqual([bare[0].startswith("far") for place, bare in bares_of(form, answer[0])], [at in least for at in range(len(program))])
        return len(least)

    def test_just_those_jumps_are_far_that_must_be(self):
        source = random.Random(431)
        found = []
        for _ in range(150):
            program = random_program(source, source.randint(1, 10), 0.6)
            program = program if len(jump_places(program)) < 8 else program[:1]
            if is_program(program):
                found.append(self.check(random_form(source, near=source.choice([3, 4, 5])), program))
                found.append(self.check(least_form(program, 8, 4, 16), program))
        self.assertTrue(all(found.count(many) > 10 for many in (0, 1, 2, 3)), found)

    def test_carried_over(self):
        source = random.Random(432)
        for _ in range(60):
            old, new = random_form(source, near=8), random_form(source, near=4)
            program = random_program(source, source.randint(1, 8), 0.6)
            answer = told(made, (old, program))
            if answer[0] != "refused":
                over = told(carried, (old, new, answer[0]))
                if over[0] != "refused":
                    self.assertIs(shows_far(new, program, over[2], why_far(new, program)), True)
                    self.check(new, program)


class RunTest(unittest.TestCase):
    def test_the_signs_run_as_the_rows_do(self):
        source = random.Random(441)
        ways = {}
        for _ in range(150):
            form, other = random_form(source), random_form(source)
            program = random_program(source, source.randint(0, 14), source.choice([0.1, 0.3, 0.6]))
            given = some_given(source)
            uses = random_uses(source, len(program))
            answers = {"made": (form, told(made, (form, program))), "laid": (form, told(laid, (form, program, uses, source.randint(8, 64))))}
            for way in ("made", "laid"):
                if answers[way][1][0] != "refused":
                    answers["carried " + way] = (other, told(carried, (form, other, answers[way][1][0])))
            best = least_form(program, 8, 4, 16)
            answers["least"] = (best, made(best, program))
            for way, (use, (text, places, more)) in answers.items():
                if text == "refused":
                    continue
                ways[way] = ways.get(way, 0) + 1
                for steps, (numbers, how, spots, at) in enumerate(runs_of_rows(program, given, 20)):
                    self.assertTrue(same(run_signs(use, text, given, steps), (numbers, how, spots, places[at])))
                    self.assertTrue(same(run_rows(program, given, steps), (numbers, how, spots, at)))
                    self.assertEqual(answered(written_program(program), given, steps), " ".join([str(number) for number in numbers] + [how]))
                self.assertTrue(all(place in places[:-1] for place in heard(use, text, given, 20)))
        self.assertGreater(min(ways[way] for way in ("made", "least", "laid", "carried made", "carried laid")), 40, ways)

    def test_places_are_carried_with_the_run(self):
        source = random.Random(442)
        many = 0
        while many < 60:
            old, new = random_form(source), random_form(source)
            program = random_program(source, source.randint(1, 12), 0.3)
            answer = told(laid, (old, program, random_uses(source, len(program)), 24))
            if answer[0] == "refused" or told(carried, (old, new, answer[0]))[0] == "refused":
                continue
            many += 1
            text, given = answer[0], some_given(source)
            over = carried(old, new, text)[0]
            self.assertEqual([carried_place(old, new, text, place) for place in heard(old, text, given, 30)], heard(new, over, given, 30))

    def test_a_layout_has_the_least_sum_and_a_paper_shows_it(self):
        source = random.Random(443)
        for _ in range(40):
            form, program = random_form(source), random_program(source, source.randint(0, 10), 0.2)
            uses, line = random_uses(source, len(program)), source.randint(8, 64)
            paper = line_prices(form, program, uses, line)
            self.assertIs(shows_prices(form, program, uses, line, paper), True)
            answer = told(laid, (form, program, uses, line))
            if answer[0] != "refused":
                self.assertEqual(answer[2], paper[0][0])

    def test_5000_steps_of_200_rows(self):
        source = random.Random(444)
        old, new = even_form(8, 16), even_form(3, 16)
        for jumps in (0.1, 0.4):
            program = random_program(source, 200, jumps)
            given = [source.randrange(256) for _ in range(200)]
            expected = run_rows(program, given, 5000)
            text, places, fars = made(old, program)
            over, new_places, new_fars = carried(old, new, text)
            self.assertTrue(same(run_signs(old, text, given, 5000), expected[:3] + (places[expected[3]],)))
            self.assertTrue(same(run_signs(new, over, given, 5000), expected[:3] + (new_places[expected[3]],)))
            spread, spread_places, number = laid(old, program, [1] * 200, 64)
            self.assertTrue(same(run_signs(old, spread, given, 5000), expected[:3] + (spread_places[expected[3]],)))
            self.assertEqual(answered(written_program(program), given, 5000), " ".join([str(one) for one in expected[0]] + [expected[1]]))


class StepTest(unittest.TestCase):
    def test_a_reading_begun_anywhere_goes_on_as_the_true_one_or_never_meets_it(self):
        source = random.Random(451)
        ends = {True: 0, False: 0}
        for book in free_books_of_many_kinds(source, 40) + [list(random_form(source).kinds) for _ in range(10)]:
            names = [source.choice(book)[0] for _ in range(12)]
            text = written(book, names)
            true = bounds_of(book, text)
            for place in range(len(text) + 1):
                begun = [place]
                for name in read_from(book, text, place)[0]:
                    begun.append(begun[-1] + len(dict(book)[name]))
                told_place = in_step(book, text, place)
                ends[told_place is None] += 1
                if told_place is None:
                    self.assertEqual(set(begun) & set(true), set())
                else:
                    self.assertEqual([at for at in begun if at >= told_place], [at for at in true if at >= told_place])
                    self.assertEqual([at for at in begun if at < told_place and at in true], [])
        self.assertGreater(min(ends.values()), 500)

    def test_rings_and_ranks_are_told_one_or_the_other(self):
        source = random.Random(452)
        ends = {True: 0, False: 0}
        for book in free_books_of_many_kinds(source, 40):
            ring, ranks = never_ring(book), ranks_of(book)
            ends[ring is None] += 1
            self.assertEqual((ring is None, ring is None), (ranks is not None, greatest_delay(book) is not None))
            self.assertIs(shows_ring(book, ring), ring is not None)
            self.assertIs(shows_ranks(book, ranks), ranks is not None)
            many = source.randint(1, 6)
            found = two_programs(book, many)
            self.assertIs(shows_none(book, many, stands_of(book, many)), found is None)
            if found is not None:
                text, place, one, other = found
                self.assertEqual(in_step(book, text, place), len(text))
                self.assertEqual((read_all(book, text), read_all(book, text[place:])), (one, other))
        self.assertGreater(min(ends.values()), 30)


class GreatBooksTest(unittest.TestCase):
    """Forms at the bounds: codes of 24 signs."""

    def test_forms_of_long_codes(self):
        kinds, spots, sizes = [[(name, figures(at, 24)) for at, name in enumerate(names)] for names in (KINDS, SPOTS, SIZES)]
        source = random.Random(461)
        old, new = even_form(8, 16), even_form(8, 16).__class__(kinds, spots, sizes, 8, 16)
        program = random_program(source, 200, 0.3)
        text = made(old, program)[0]
        over = carried(old, new, text)
        self.assertTrue(same(parsed(new, over[0]), program))
        self.assertTrue(same(carried(new, old, over[0]), made(old, program)))


class OwnTest(unittest.TestCase):
    def test_what_is_told_may_be_handed_in_again(self):
        form, other = even_form(4, 12), even_form(3, 16)
        program = [("ask", "a"), ("zero", "a", 4), ("tell", "a"), ("jump", 0)]
        text, places, fars = check_own(self, made, form, program[:])
        again = check_own(self, parsed, form, text)
        self.assertTrue(same(again, program))
        over = check_own(self, carried, form, other, text)
        self.assertTrue(same(check_own(self, parsed, other, over[0]), program))
        self.assertTrue(same(check_own(self, carried, other, form, over[0]), (text, places, fars)))
        paper = check_own(self, why_far, form, program[:])
        self.assertIs(check_own(self, shows_far, form, program[:], fars, paper), True)
        prices = check_own(self, line_prices, form, program[:], [1, 2, 3, 4], 16)
        self.assertIs(check_own(self, shows_prices, form, program[:], [1, 2, 3, 4], 16, prices), True)
        for uses in check_own(self, uses_of, program[:]):
            self.assertIs(check_own(self, shows_least, uses[:], 5, least_sum(uses, 5), layers_of(uses, 5)), True)
        sheet = check_own(self, written_program, program[:])
        self.assertTrue(same(check_own(self, read_program, sheet), program))

    def test_a_form_is_not_changed_by_what_it_was_made_of(self):
        even = even_form(4, 12)
        books = [list(even.kinds), list(even.spots), list(even.sizes)]
        form = even.__class__(*books, 4, 12)
        program = [("ask", "a"), ("zero", "a", 4), ("tell", "a"), ("jump", 0)]
        first = made(form, program)
        for book in books:
            del book[:]
        self.assertTrue(same(made(form, program), first))
        best = least_form(program, 8, 4, 16)
        first = made(best, program)
        program.append(("stop",))
        self.assertTrue(same(made(best, program[:4]), first))


if __name__ == "__main__":
    unittest.main()
