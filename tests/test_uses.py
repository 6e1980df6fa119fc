import random
import unittest

from oddlong.books import free, is_book
from oddlong.errors import NoForm, TooFar, TooFull
from oddlong.forms import Form
from oddlong.making import made
from oddlong.uses import least_form, size_of, uses_of
from tests.helper import (KINDS, SIZES, SPOTS, check_own, deep, even_form, missed, places_written, random_form, random_pairs, random_program, same,
                          sum_by_depths, told)

ODD = [True, False, None, "", "4", [], [4], (4,), (), deep(30)]


def uses_by_hand(program):
    """The uses, counted row by row as the document has them."""
    kinds, spots, sizes = [row[0] for row in program], [], []
    for row in program:
        match row:
            case ("set", spot, number):
                spots.append(spot)
                sizes.append(SIZES[0 if number == 0 else len(format(number, "b"))])
            case ("add" | "take", spot, other):
                spots += [spot, other]
            case ("tell" | "ask", spot) | ("zero", spot, _):
                spots.append(spot)
            case ("jump", _) | ("stop",):
                pass
    return tuple([(name, row.count(name)) for name in names] for names, row in ((KINDS, kinds), (SPOTS, spots), (SIZES, sizes)))


def sum_of(book, uses):
    return sum(use * len(dict(book)[name]) for name, use in uses)


def fields_of(form):
    return (form.kinds, form.spots, form.sizes, form.near, form.far)


def fields(program, most, near, far):
    return fields_of(least_form(program, most, near, far))


def some_programs(source, many):
    """Programs of all kinds, some that use few kinds, spots and sizes."""
    programs = [[], [("stop",)], [("jump", 0)], [("zero", "b", 1)], [("set", "d", 255)] * 9, [("jump", 0), ("zero", "a", 0)] * 40]
    for _ in range(many):
        program = random_program(source, source.choice([1, 3, 8, 30]), source.choice([0, 0.3, 0.9]))
        few = source.sample(["set", "add", "take", "tell", "ask", "jump", "zero", "stop"], 3)
        programs += [program, [row if row[0] in few else ("tell", "a") for row in program]]
    return programs


class UsesTest(unittest.TestCase):
    def test_written_out(self):
        kinds, spots, sizes = uses_of([])
        self.assertTrue(same(kinds, [(name, 0) for name in KINDS]))
        self.assertTrue(same(spots, [(name, 0) for name in SPOTS]))
        self.assertTrue(same(sizes, [(name, 0) for name in SIZES]))
        program = [("set", "a", 0), ("set", "b", 1), ("set", "b", 255), ("add", "c", "c"), ("take", "a", "d"), ("tell", "d"), ("ask", "a"),
                   ("jump", 3), ("zero", "d", 0), ("zero", "d", 9), ("stop",)]
        kinds = [("set", 3), ("add", 1), ("take", 1), ("tell", 1), ("ask", 1), ("jump", 1), ("zero", 2), ("stop", 1), ("farjump", 0),
                 ("farzero", 0), ("skip", 0)]
        spots = [("a", 3), ("b", 2), ("c", 2), ("d", 4)]
        sizes = [("none", 1), ("one", 1), ("two", 0), ("three", 0), ("four", 0), ("five", 0), ("six", 0), ("seven", 0), ("eight", 1)]
        self.assertTrue(same(uses_of(program), (kinds, spots, sizes)))

    def test_all_numbers(self):
        for number in range(256):
            size = SIZES[len(format(number, "b")) if number else 0]
            self.assertEqual([name for name, use in uses_of([("set", "a", number)])[2] if use], [size])
        self.assertEqual([use for name, use in uses_of([("set", "a", number) for number in range(256)])[2]], [1, 1, 2, 4, 8, 16, 32, 64, 128])

    def test_beside_a_count_by_hand(self):
        source = random.Random(341)
        for program in some_programs(source, 60) + [random_program(source, 200, 0.5)]:
            self.assertTrue(same(uses_of(program), uses_by_hand(program)))

    def test_they_are_the_signs_of_the_text_with_all_jumps_near(self):
        source = random.Random(342)
        for program in some_programs(source, 20):
            form = random_form(source)
            signs = sum(sum_of(book, uses) for book, uses in zip((form.kinds, form.spots, form.sizes), uses_of(program)))
            figures = sum(max(len(format(row[2], "b")) - 1, 0) for row in program if row[0] == "set")
            jumps = sum(row[0] in ("jump", "zero") for row in program)
            self.assertEqual(places_written(form, program, [])[-1], signs + figures + jumps * form.near)

    def test_own(self):
        for program in some_programs(random.Random(343), 3):
            check_own(self, uses_of, program)


class LeastFormTest(unittest.TestCase):
    def check(self, program, most, near, far):
        form = least_form(program, most, near, far)
        self.assertIs(form.__class__, Form)
        self.assertTrue(same((form.near, form.far), (near, far)))
        for book, uses in zip((form.kinds, form.spots, form.sizes), uses_by_hand(program)):
            self.assertTrue(is_book(list(book)) and free(list(book)))
            self.assertEqual([name for name, code in book], [name for name, use in uses])
            self.assertLessEqual(max(len(code) for name, code in book), most)
            self.assertEqual(sum_of(book, uses), sum_by_depths(uses, most), (program, most, book))
        return form

    def test_least_books_for_each_most(self):
        source = random.Random(351)
        for program in some_programs(source, 12):
            for most in (4, 5, 6, 8, 11, 24):
                near = source.randint(2, 8)
                self.check(program, most, near, source.choice([near + 1, 16]))

    def test_most_matters(self):
        # Each kind is used about twice as often as the next one, which wants long codes.
        program = [("tell", "a")] * 100 + [("ask", "b")] * 50 + [("stop",)] * 25 + [("add", "a", "a")] * 12 + [("take", "c", "c")] * 6
        program += [("jump", 0)] * 3 + [("zero", "d", 0)] * 2
        sums = [sum_of(self.check(program, most, 4, 16).kinds, uses_of(program)[0]) for most in range(4, 25)]
        self.assertEqual(sorted(sums, reverse=True), sums)
        self.assertGreater(len(set(sums)), 3)

    def test_there_always_is_one_however_near_and_far_are_apart(self):
        # Where jumps are used rarely or never, their codes may be long, and a far one's must not be much shorter.
        source = random.Random(352)
        programs = some_programs(source, 20)
        for program in programs + [[("jump", 0)], [("zero", "a", 0)], [("jump", 0)] + [("stop",)] * 50, [("zero", "a", 0)] + [("tell", "b")] * 9]:
            for most in (4, 5, 7, 9, 12, 24):
                for near in (2, 5, 8):
                    form = self.check(program, most, near, near + 1)
                    codes = dict(form.kinds)
                    for jump in ("jump", "zero"):
                        self.assertGreaterEqual(len(codes["far" + jump]) + form.far, len(codes[jump]) + form.near)

    def test_too_full_goes_first(self):
        for program in ([], [("stop",)], [("jump", 0), ("set", "a", 7)]):
            for most in range(0, 4):
                for near, far in ((4, 16), (2, 3), (1, 16), (9, 10), (4, 4), (4, 17), (None, None), (True, "x"), (0, 0)):
                    with self.assertRaises(TooFull):
                        least_form(program, most, near, far)
            self.check(program, 4, 4, 16)

    def test_near_then_far(self):
        for program in ([], [("jump", 0), ("set", "a", 7)]):
            for near in list(range(-2, 12)) + ODD:
                for far in list(range(0, 20)) + ODD:
                    right = near.__class__ is int and 2 <= near <= 8
                    if not right:
                        self.assertEqual(told(least_form, (program, 4, near, far)), ("refused", "NoForm", {"why": "near"}))
                    elif far.__class__ is not int or not near < far <= 16:
                        self.assertEqual(told(least_form, (program, 8, near, far)), ("refused", "NoForm", {"why": "far"}))
                    else:
                        self.assertTrue(same(fields(program, 8, near, far)[3:], (near, far)))
        with self.assertRaises(NoForm):
            least_form([], 4, 1, 16)

    def test_200_rows(self):
        source = random.Random(353)
        program = random_program(source, 200, 0.3)
        for most in (4, 8, 24):
            self.check(program, most, 8, 16)

    def test_own(self):
        for program in some_programs(random.Random(354), 2):
            for handed in ((4, 4, 16), (24, 2, 3), (3, 4, 16), (8, 1, 16), (8, 2, 2)):
                check_own(self, fields, program[:], *handed)


class SizeTest(unittest.TestCase):
    def test_the_made_texts_signs(self):
        source = random.Random(361)
        ends = {"told": 0, "far": 0, "refused": 0}
        for _ in range(300):
            form = random_form(source, most_far=source.choice([5, 16]))
            program = random_program(source, source.randint(0, 14), source.choice([0.2, 0.8]))
            answer = told(made, (form, program))
            if answer[0] == "refused":
                ends["refused"] += 1
                self.assertEqual(told(size_of, (form, program)), answer)
            else:
                ends["far" if answer[2] else "told"] += 1
                self.assertTrue(same(size_of(form, program), len(answer[0])))
                self.assertEqual(size_of(form, program), places_written(form, program, answer[2])[-1])
        self.assertGreater(min(ends.values()), 30, ends)

    def test_written_out(self):
        form = even_form(4, 10)
        self.assertTrue(same(size_of(form, []), 0))
        self.assertTrue(same(size_of(form, [("stop",)]), 4))
        self.assertTrue(same(size_of(form, [("jump", 0)]), 8))
        self.assertTrue(same(size_of(form, [("zero", "a", 0)]), 16))
        with self.assertRaises(TooFar) as caught:
            size_of(even_form(2, 3), [("stop",), ("jump", 0)])
        self.assertEqual(caught.exception.row, 1)

    def test_no_other_form_writes_it_in_fewer(self):
        source = random.Random(362)
        compared = 0
        while compared < 1500:
            program = random_program(source, source.randint(1, 12), source.choice([0, 0.15, 0.3]))
            most, near = source.choice([4, 5, 8, 24]), source.randint(2, 8)
            best = least_form(program, most, near, 16)
            if missed(best, program, [], [at for at, row in enumerate(program) if row[0] in ("jump", "zero")]):
                continue
            size = size_of(best, program)
            self.assertEqual(made(best, program)[2], [])
            for _ in range(8):
                books = [random_pairs(source, names, source.randint(4, min(most, 9))) for names in (KINDS, SPOTS, SIZES)]
                other = told(Form, (*books, near, source.choice([16, source.randint(near + 1, 16)])))
                if isinstance(other, Form):
                    found = told(size_of, (other, program))
                    if isinstance(found, int):
                        compared += 1
                        self.assertGreaterEqual(found, size)

    def test_own(self):
        for form in (even_form(4, 10), even_form(2, 3)):
            for program in ([], [("stop",), ("jump", 0)], [("zero", "b", 0), ("jump", 0)]):
                check_own(self, size_of, form, program)


if __name__ == "__main__":
    unittest.main()
