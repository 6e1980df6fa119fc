import itertools
import random
import unittest

from oddlong.bare import bares_of
from oddlong.errors import OddError, TooFar
from oddlong.forms import Form
from oddlong.making import far_sum, made, places_by, why_far
from tests.helper import (KINDS, bare_row, check_own, distance_in, distances, even_form, figures, jump_places, missed, places_written,
                          random_form, random_program, same, written_bare)


def lists_of(jumps):
    """All rising lists of some of these jumps."""
    return [list(some) for many in range(len(jumps) + 1) for some in itertools.combinations(jumps, many)]


def text_written(form, program, fars):
    places = places_written(form, program, fars)
    return "".join(written_bare(form, bare_row(row, at in fars, distance_in(program, places, at) if at in jump_places(program) else 0))
                   for at, row in enumerate(program))


def chain(links, near, missed_last):
    """Jumps of even_form(near, 16), each over the next one and as many stop rows as are just reached where that is near;
    the last one goes over so many stop rows as are reached, or one more."""
    room = (2 ** (near - 1) - 1 - 4 - near) // 4
    program = []
    for link in range(links - 1):
        program += [("jump", len(program) + room + 2)] + [("stop",)] * room
    many = (2 ** (near - 1) - 1) // 4 + missed_last
    return program + [("jump", len(program) + many + 1)] + [("stop",)] * many


def chain_back(links, near, missed_first):
    """The same backwards: each over the one ahead."""
    room = (2 ** (near - 1) - 8 - 2 * near) // 4
    many = (2 ** (near - 1) - 4 - near) // 4 + missed_first
    program = [("stop",)] * many + [("jump", 0)]
    for link in range(links - 1):
        program += [("stop",)] * room + [("jump", len(program) - 1)]
    return program


class PlacesTest(unittest.TestCase):
    def test_written_out(self):
        program = [("set", "a", 5), ("zero", "a", 4), ("tell", "a"), ("jump", 1), ("stop",)]
        form = even_form(4, 10)
        self.assertTrue(same(places_by(form, [], []), [0]))
        self.assertTrue(same(places_by(form, program, []), [0, 12, 22, 28, 36, 40]))
        self.assertTrue(same(places_by(form, program, [1]), [0, 12, 28, 34, 42, 46]))
        self.assertTrue(same(places_by(form, program, [3]), [0, 12, 22, 28, 42, 46]))
        self.assertTrue(same(places_by(form, program, [1, 3]), [0, 12, 28, 34, 48, 52]))

    def test_no_some_and_all_jumps_far(self):
        source = random.Random(131)
        for _ in range(60):
            form = random_form(source)
            program = random_program(source, source.randint(0, 12))
            jumps = jump_places(program)
            for fars in source.sample(lists_of(jumps), min(20, 2 ** len(jumps))) + [[], jumps]:
                self.assertTrue(same(places_by(form, program, fars), places_written(form, program, fars)))

    def test_200_rows(self):
        source = random.Random(132)
        for jumps in (0, 0.5, 1):
            form = random_form(source)
            program = random_program(source, 200, jumps)
            for fars in ([], jump_places(program), jump_places(program)[::2]):
                self.assertTrue(same(places_by(form, program, fars), places_written(form, program, fars)))


class MadeTest(unittest.TestCase):
    def refused(self, form, program, row):
        for ask in (made, why_far, far_sum):
            with self.assertRaises(TooFar) as caught:
                ask(form, program)
            self.assertTrue(same(caught.exception.row, row), (ask, program))
            self.assertIsInstance(caught.exception, OddError)

    def check_told(self, form, program, fars):
        """What is told where these are the far jumps, all reached."""
        text, places, told = made(form, program)
        self.assertTrue(same(told, fars), (program, told, fars))
        self.assertTrue(same(places, places_written(form, program, fars)))
        self.assertTrue(same(text, text_written(form, program, fars)))
        self.assertEqual(len(text), places[-1])
        self.assertTrue(same(bares_of(form, text), list(zip(places, self.bares(program, places, fars)))))
        self.assertTrue(same(far_sum(form, program), len(text) - places_written(form, program, [])[-1]))
        self.check_paper(form, program, fars)

    def bares(self, program, places, fars):
        return [bare_row(row, at in fars, distance_in(program, places, at) if row[0] in ("jump", "zero") else None)
                for at, row in enumerate(program)]

    def check_paper(self, form, program, fars):
        paper = why_far(form, program)
        self.assertIsInstance(paper, list)
        self.assertTrue(all(isinstance(pair, tuple) and len(pair) == 2 for pair in paper))
        self.assertTrue(same(sorted(place for place, distance in paper), fars))
        ahead = []
        for place, distance in paper:
            self.assertTrue(same(distance, distance_in(program, places_written(form, program, ahead), place)))
            self.assertNotIn(distance, distances(form.near))
            ahead.append(place)

    def check(self, form, program):
        """Beside all lists of jumps; how many are far, or None where refused."""
        jumps = jump_places(program)
        fine = [fars for fars in lists_of(jumps) if not missed(form, program, fars, [at for at in jumps if at not in fars])]
        least = min(fine, key=len)
        self.assertTrue(all(set(least) <= set(fars) for fars in fine))
        lost = missed(form, program, least, least)
        if lost:
            self.assertFalse(any(not missed(form, program, fars, jumps) for fars in fine))
            self.refused(form, program, lost[0])
            return None
        self.check_told(form, program, least)
        return len(least)

    def least_by_rounds(self, form, program):
        """The least list of far jumps of a long program, all missed ones added round by round."""
        fars = []
        while True:
            more = missed(form, program, fars, [at for at in jump_places(program) if at not in fars])
            if not more:
                return fars
            fars = sorted(fars + more)

    def check_long(self, form, program):
        fars = self.least_by_rounds(form, program)
        lost = missed(form, program, fars, fars)
        if lost:
            self.refused(form, program, lost[0])
        else:
            self.check_told(form, program, fars)
        return len(fars)

    def test_small(self):
        form = even_form(4, 10)
        self.assertTrue(same(made(form, []), ("", [0], [])))
        self.assertTrue(same(why_far(form, []), []))
        self.assertTrue(same(far_sum(form, []), 0))
        self.assertTrue(same(made(form, [("stop",)]), ("0111", [0, 4], [])))
        self.assertTrue(same(made(form, [("jump", 0)]), ("0101" + "1000", [0, 8], [])))
        self.assertTrue(same(made(form, [("jump", 1)]), ("0101" + "0000", [0, 8], [])))
        self.assertTrue(same(made(form, [("zero", "b", 0)]), ("1001" + "01" + "1111110000", [0, 16], [0])))
        self.assertTrue(same(why_far(form, [("zero", "b", 0)]), [(0, -10)]))
        self.assertTrue(same(far_sum(form, [("zero", "b", 0)]), 6))

    def test_at_the_bounds(self):
        for near in range(3, 9):
            form = even_form(near, 16)
            half = 2 ** (near - 1)
            for many in range(max(0, half // 4 - 4), half // 4 + 4):
                for program, at, distance in (([("jump", many + 1)] + [("stop",)] * many, 0, 4 * many),
                                              ([("stop",)] * many + [("jump", 0)], many, -4 * many - 4 - near),
                                              ([("stop",)] * many + [("zero", "c", 0)], many, -4 * many - 6 - near)):
                    fars = [] if -half <= distance < half else [at]
                    self.assertTrue(same(made(form, program)[2], fars))
                    self.assertTrue(same(why_far(form, program), [(at, distance) for at in fars]))
                    self.check(form, program)

    def test_beside_all_lists_of_jumps(self):
        source = random.Random(133)
        found = {}
        for _ in range(500):
            form = random_form(source, most_far=source.choice([4, 7, 16]), near=source.choice([None, 2, 4, 5, 6]))
            program = random_program(source, source.randint(0, 9), source.choice([0.4, 0.7, 1]))
            many = self.check(form, program)
            found[many] = found.get(many, 0) + 1
        for many in (None, 0, 1, 2, 3):
            self.assertGreater(found[many], 8, found)

    def test_jumps_that_make_one_another_far(self):
        source = random.Random(134)
        rounds = 0
        for _ in range(3000):
            form = random_form(source, near=source.choice([4, 5, 6]))
            program = random_program(source, source.randint(4, 7), 1)
            first = missed(form, program, [], jump_places(program))
            if first and first != self.least_by_rounds(form, program):
                rounds += 1
                self.check(form, program)
        self.assertGreater(rounds, 100)

    def test_chains(self):
        for build, near, links in ((chain, 5, 1), (chain, 5, 2), (chain, 5, 9), (chain, 5, 97), (chain, 6, 30), (chain, 7, 12), (chain, 8, 5),
                                   (chain_back, 6, 1), (chain_back, 6, 8), (chain_back, 6, 48), (chain_back, 7, 15), (chain_back, 8, 5)):
            form = even_form(near, 16)
            reached = build(links, near, 0)
            self.assertTrue(same(made(form, reached)[2], []), (build, near, links))
            self.check_told(form, reached, [])
            program = build(links, near, 1)
            self.assertLessEqual(len(program), 201)
            jumps = jump_places(program)
            self.check_told(form, program, jumps)
            # Each is missed only where the one that it goes over is far.
            order = [place for place, distance in why_far(form, program)]
            self.assertEqual(order, jumps[::-1] if build == chain else jumps)
            if links < 10:
                self.check(form, program)

    def test_jumps_to_themselves_and_to_the_end(self):
        source = random.Random(135)
        for _ in range(60):
            form = random_form(source, most_far=source.choice([5, 16]))
            for many in (1, 2, 5):
                self.check(form, [("jump", at) for at in range(many)])
                self.check(form, [("zero", "a", at) for at in range(many)])
                self.check(form, [("jump", many)] * many)
                self.check(form, [("zero", "d", many)] * many)
                self.check(form, [("jump", 0)] * many)

    def test_200_rows(self):
        source = random.Random(136)
        for jumps in (0, 0.1, 0.5, 1):
            for near in (2, 6, 8):
                for most in (near + 1, 12, 16):
                    self.check_long(random_form(source, most_far=most, near=near), random_program(source, 200, jumps))
        self.assertEqual(self.check_long(even_form(2, 16), [("jump", 199 - at) for at in range(200)]), 199)
        self.assertEqual(self.check_long(even_form(8, 16), [("jump", at + 1) for at in range(200)]), 0)

    def test_the_first_that_is_missed_is_told(self):
        form = even_form(3, 6)
        long = [("set", "a", 255)] * 3
        self.refused(form, [("stop",), ("jump", 5)] + long + [("jump", 0)], 1)
        self.refused(form, [("jump", 1)] + long + [("jump", 0), ("zero", "b", 0)], 4)
        self.refused(form, long + [("zero", "a", 4), ("zero", "b", 0), ("jump", 0)], 4)

    def test_the_first_that_is_missed_is_found_last(self):
        others = [name for name in KINDS if name not in ("jump", "farjump")]
        kinds = [("jump", "10"), ("farjump", "11" + "0" * 28)] + [(name, "0" + figures(at, 4)) for at, name in enumerate(others)]
        even = even_form()
        form = Form(kinds, even.spots, even.sizes, 5, 6)
        # Row 1 is missed near and far; far it has so many signs that row 0 is missed near and far, too.
        self.refused(form, [("jump", 2), ("jump", 22)] + [("stop",)] * 20, 0)
        self.refused(form, [("stop",), ("jump", 4), ("jump", 4), ("jump", 24)] + [("stop",)] * 20, 1)
        self.check(form, [("jump", 2), ("jump", 22)] + [("stop",)] * 20)

    def test_a_far_jump_with_as_many_signs_as_a_near_one(self):
        source = random.Random(137)
        alike = 0
        while alike < 12:
            form = random_form(source)
            codes = dict(form.kinds)
            if any(len(codes["far" + jump]) + form.far == len(codes[jump]) + form.near for jump in ("jump", "zero")):
                alike += 1
                for _ in range(6):
                    self.check(form, random_program(source, 7, 0.9))

    def test_own(self):
        source = random.Random(138)
        for _ in range(12):
            form = random_form(source, most_far=source.choice([4, 16]))
            program = random_program(source, source.randint(0, 8), 0.8)
            for ask in (made, why_far, far_sum):
                check_own(self, ask, form, program[:])
            for fars in ([], jump_places(program), jump_places(program)[1:]):
                check_own(self, places_by, form, program[:], fars[:])


if __name__ == "__main__":
    unittest.main()
