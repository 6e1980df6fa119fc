import itertools
import random
import unittest

from oddlong.errors import TooFar
from oddlong.farcheck import shows_far
from oddlong.making import made, why_far
from tests.helper import (check_own, deep, distance_in, distances, even_form, jump_places, missed, odd_things, places_written, random_form,
                          random_program, same)


def by_words(form, program, fars, thing):
    """Whether a thing is such a paper, by the words of the document."""
    if not isinstance(thing, list) or not all(isinstance(pair, tuple) and len(pair) == 2 for pair in thing):
        return False
    if sorted(repr(place) for place, distance in thing) != sorted(map(repr, fars)):
        return False
    for at, pair in enumerate(thing):
        ahead = [place for place, distance in thing[:at]]
        distance = distance_in(program, places_written(form, program, ahead), pair[0])
        if not same(pair, (pair[0], distance)) or distance in distances(form.near):
            return False
    return not missed(form, program, fars, [at for at in jump_places(program) if at not in fars])


def paper_of(form, program):
    """A paper of the least far jumps, the last one first, whether these are reached or not."""
    paper, fars = [], []
    while True:
        more = missed(form, program, fars, [at for at in jump_places(program) if at not in fars])
        if not more:
            return sorted(fars), paper
        paper.append((more[-1], distance_in(program, places_written(form, program, fars), more[-1])))
        fars.append(more[-1])


def changed(paper):
    """The paper with one thing otherwise, at any place."""
    yield tuple(paper)
    yield [paper]
    yield paper + [None]
    yield paper + [()]
    yield dict(paper)
    for at, (place, distance) in enumerate(paper):
        ahead, behind = paper[:at], paper[at + 1:]
        yield ahead + behind
        yield ahead + [paper[at]] + paper[at:]
        yield paper + [paper[at]]
        for other in range(at):
            row = paper[:]
            row[at], row[other] = row[other], row[at]
            yield row
            # The places exchanged, the distances left.
            row = paper[:]
            row[at], row[other] = (row[other][0], distance), (place, row[other][1])
            yield row
        pairs = [(place, distance + 1), (place, distance - 1), (place, -distance), (place + 1, distance), (place - 1, distance),
                 (distance, place), [place, distance], (place,), (place, distance, 0), (), place, str(place), None, True, (place, None),
                 (None, distance), (place, str(distance)), (str(place), distance), ((place, distance),), (place, [distance]),
                 ([place], distance), (place, True), (True, distance), (False, distance), (place, deep(27)), (deep(27), distance)]
        for pair in pairs:
            yield ahead + [pair] + behind


class ShowsFarTest(unittest.TestCase):
    def check(self, form, program, fars, thing):
        expected = by_words(form, program, fars, thing)
        self.assertIs(shows_far(form, program, fars, thing), expected, (program, fars, thing))
        return expected

    def check_all(self, form, program, fars, paper):
        self.assertIs(shows_far(form, program, fars, paper), True)
        self.assertTrue(by_words(form, program, fars, paper))
        for thing in changed(paper):
            self.check(form, program, fars, thing)
        for jump in jump_places(program):
            if jump in fars:
                fewer = [at for at in fars if at != jump]
                self.assertIs(shows_far(form, program, fewer, paper), False)
                self.assertIs(shows_far(form, program, fewer, [pair for pair in paper if pair[0] != jump]), False)
            else:
                more = sorted(fars + [jump])
                self.assertIs(shows_far(form, program, more, paper), False)
                distance = distance_in(program, places_written(form, program, fars), jump)
                self.assertIs(shows_far(form, program, more, paper + [(jump, distance)]), False)
                self.assertIs(shows_far(form, program, more, [(jump, distance_in(program, places_written(form, program, []), jump))] + paper), False)

    def test_written_out(self):
        form = even_form(4, 10)
        program = [("zero", "b", 0), ("jump", 0)]
        self.assertIs(shows_far(form, program, [0, 1], [(0, -10), (1, -24)]), True)
        self.assertIs(shows_far(form, program, [0, 1], [(1, -18), (0, -10)]), True)
        self.assertIs(shows_far(form, program, [0, 1], [(1, -24), (0, -10)]), False)
        self.assertIs(shows_far(form, program, [0, 1], [(0, -10), (1, -18)]), False)
        self.assertIs(shows_far(form, program, [0, 1], [(False, -10), (1, -24)]), False)
        self.assertIs(shows_far(form, program, [0, 1], [(0, -10), (True, -24)]), False)
        self.assertIs(shows_far(form, program, [1], [(1, -18)]), False)
        self.assertIs(shows_far(form, [], [], []), True)
        self.assertIs(shows_far(form, [("stop",)], [], []), True)
        self.assertIs(shows_far(form, [("jump", 0)], [], []), True)
        self.assertIs(shows_far(form, [("jump", 0)], [0], [(0, -8)]), False)
        self.assertIs(shows_far(form, [("zero", "a", 0)], [], []), False)

    def test_what_why_far_tells(self):
        source = random.Random(141)
        found = {}
        while found.get("told", 0) < 150:
            form = random_form(source, near=source.choice([None, 4, 5]))
            program = random_program(source, source.randint(0, 9), source.choice([0.5, 1]))
            try:
                text, places, fars = made(form, program)
            except TooFar:
                continue
            found["told"] = found.get("told", 0) + 1
            found[len(fars)] = found.get(len(fars), 0) + 1
            self.check_all(form, program, fars, why_far(form, program))
        self.assertTrue(all(found.get(many, 0) > 5 for many in (0, 1, 2, 3, 4)), found)

    def test_all_orders_of_the_least_jumps(self):
        source = random.Random(142)
        right = wrong = 0
        for _ in range(120):
            form = random_form(source, near=source.choice([4, 5, 6]))
            program = random_program(source, source.randint(4, 8), 1)
            fars, paper = paper_of(form, program)
            for order in itertools.islice(itertools.permutations(fars), 24):
                things = [[], []]
                for at, place in enumerate(order):
                    for thing, ahead in zip(things, (order[:at], ())):
                        thing.append((place, distance_in(program, places_written(form, program, ahead), place)))
                for thing in things:
                    shown = self.check(form, program, fars, thing)
                    right, wrong = right + shown, wrong + (not shown)
        self.assertGreater(right, 200)
        self.assertGreater(wrong, 200)

    def test_far_jumps_that_are_missed_are_the_least_all_the_same(self):
        source = random.Random(143)
        many = 0
        while many < 40:
            form = random_form(source, most_far=5)
            program = random_program(source, source.randint(1, 7), 0.8)
            fars, paper = paper_of(form, program)
            if missed(form, program, fars, fars):
                many += 1
                self.check_all(form, program, fars, paper)

    def test_other_programs_and_forms(self):
        source = random.Random(144)
        right = wrong = 0
        for _ in range(300):
            form = random_form(source, near=4)
            program = random_program(source, 6, 0.8)
            fars, paper = paper_of(form, program)
            other = program[:]
            at = source.choice(jump_places(program) or [0])
            if other[at][0] in ("jump", "zero"):
                other[at] = other[at][:-1] + (source.randint(0, 6),)
            for use, rows in ((form, other), (random_form(source, near=4), program)):
                shown = self.check(use, rows, fars, paper)
                right, wrong = right + shown, wrong + (not shown)
        self.assertGreater(right, 25)
        self.assertGreater(wrong, 25)

    def test_wrong_things(self):
        form = even_form(4, 10)
        for program, fars in (([], []), ([("jump", 0)], []), ([("zero", "a", 0)], [0]), ([("stop",), ("zero", "a", 0)], [1])):
            for thing in odd_things() + [[(0,)], [(1,)], [(0, -10, 0)], [[0, -10]], "[]", [(True, -14)], [(None, None)], {}]:
                self.assertIs(shows_far(form, program, fars, thing), False, thing)
            self.assertIs(shows_far(form, program, fars, paper_of(form, program)[1]), True)

    def test_200_rows(self):
        form = even_form(2, 16)
        program = [("jump", (at * 7) % 201) for at in range(200)]
        paper = why_far(form, program)
        fars = sorted(place for place, distance in paper)
        self.assertGreater(len(fars), 190)
        self.assertIs(shows_far(form, program, fars, paper), True)
        place, distance = paper[150]
        self.assertIs(shows_far(form, program, fars, paper[:150] + [(place, distance + 1)] + paper[151:]), False)
        self.assertIs(shows_far(form, program, fars, paper[::-1]), False)
        self.assertIs(shows_far(form, program, fars, paper[:-1]), False)

    def test_own(self):
        form = even_form(4, 10)
        program = [("zero", "b", 0), ("jump", 0)]
        for thing in (why_far(form, program), [[0, -10], [1, -24]], [], None, [(0, -10), [[]]]):
            check_own(self, shows_far, form, program[:], [0, 1], thing)
            check_own(self, shows_far, form, program[:], [], thing)


if __name__ == "__main__":
    unittest.main()
