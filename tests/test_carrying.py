import random
import unittest

from oddlong.bare import bares_of
from oddlong.carrying import carried, carried_place, parsed
from oddlong.errors import BadText, NoPlace, NoTarget, OddError, TooFar
from oddlong.lines import laid
from oddlong.making import made
from oddlong.signrunning import run_signs
from tests.helper import (KINDS, SIZES, SPOTS, check_own, even_form, program_by_hand, random_form, random_program, random_uses, same,
                          some_jumping_bares, told, written_bare)


def text_of(form, bares):
    return "".join(written_bare(form, bare) for bare in bares)


def refused(name, field, value):
    return ("refused", name, {field: value})


def spoilt(source, text):
    """The text cut, made longer, or with other signs."""
    at = source.randint(0, len(text))
    return source.choice([text[:at], text + source.choice("01"), text[:at] + source.choice("01") + text[at:], text[:at] + text[at + 1:],
                          text[:at] + "".join(source.choice("01") for _ in range(8))])


class ParsedTest(unittest.TestCase):
    def test_written_out(self):
        form = even_form(4, 10)
        bares = [("skip", 3), ("skip", 0), ("ask", "a"), ("skip", 1), ("skip", 0), ("farzero", "a", 10), ("jump", -7), ("tell", "b"), ("skip", 2), ("skip", 7)]
        places = [0, 10, 17, 23, 31, 38, 54, 62, 68, 77, 91]
        self.assertEqual(len(text_of(form, bares)), places[-1])
        self.assertEqual([place for place, bare in bares_of(form, text_of(form, bares))], places[:-1])
        # From behind the farzero's signs, at 54, 14 on to the skip rows ahead of the end.
        for distance, at in ((0, 2), (8, 3), (14, 4), (23, 4), (37, 4), (-16, 1), (-23, 1), (-31, 1), (-37, 0), (-44, 0), (-54, 0)):
            bares[5] = ("farzero", "a", distance)
            bares[6] = ("jump", -8)
            self.assertTrue(same(parsed(form, text_of(form, bares)), [("ask", "a"), ("zero", "a", at), ("jump", 2), ("tell", "b")]), distance)
        for distance in (-55, -53, -45, -32, -15, -1, 1, 7, 13, 36, 38, 200, -200):
            bares[5] = ("farzero", "a", distance)
            with self.assertRaises(NoTarget) as caught:
                parsed(form, text_of(form, bares))
            self.assertTrue(same(caught.exception.place, 38))

    def test_empty_text_and_skip_rows_alone(self):
        source = random.Random(301)
        for form in [even_form()] + [random_form(source) for _ in range(10)]:
            self.assertTrue(same(parsed(form, ""), []))
            for many in range(8):
                self.assertTrue(same(parsed(form, text_of(form, [("skip", many)])), []))
                self.assertTrue(same(parsed(form, text_of(form, [("skip", many), ("skip", 7 - many), ("skip", 0)])), []))
            self.assertTrue(same(parsed(form, text_of(form, [("stop",), ("skip", 5)])), [("stop",)]))
            self.assertTrue(same(parsed(form, text_of(form, [("farjump", 0)])), [("jump", 1)]))
            self.assertTrue(same(parsed(form, text_of(form, [("farzero", "c", 0), ("skip", 0)])), [("zero", "c", 1)]))

    def test_made_texts_tell_the_program(self):
        source = random.Random(302)
        far = 0
        for _ in range(200):
            form = random_form(source, near=source.choice([None, 3, 8]))
            program = random_program(source, source.randint(0, 15), source.choice([0.2, 0.6, 1]))
            answer = told(made, (form, program))
            if len(answer) == 3 and answer[0] != "refused":
                far += answer[2] != []
                self.assertTrue(same(parsed(form, answer[0]), program))
        self.assertGreater(far, 50)

    def test_laid_texts_tell_the_program(self):
        source = random.Random(303)
        skips = 0
        for _ in range(150):
            form = random_form(source)
            program = random_program(source, source.randint(0, 12), source.choice([0.2, 0.6]))
            answer = told(laid, (form, program, random_uses(source, len(program)), source.randint(8, 64)))
            if answer[0] != "refused":
                skips += any(bare[0] == "skip" for place, bare in bares_of(form, answer[0]))
                self.assertTrue(same(parsed(form, answer[0]), program))
        self.assertGreater(skips, 40)

    def test_any_bare_rows(self):
        source = random.Random(304)
        ends = {True: 0, False: 0}
        for _ in range(600):
            form = random_form(source, most_far=source.choice([6, 10, 16]))
            bares, places = some_jumping_bares(source, form, source.randint(0, 12), source.choice([0, 0, 0.1, 0.5, 1]))
            expected = program_by_hand(bares, places)
            answer = told(parsed, (form, text_of(form, bares)))
            if isinstance(expected, int):
                expected = refused("NoTarget", "place", expected)
            ends[isinstance(expected, list)] += 1
            self.assertTrue(same(answer, expected), (bares, answer, expected))
        self.assertGreater(min(ends.values()), 100)

    def test_jumps_that_lead_below_nought_and_beyond(self):
        form = even_form(8, 16)
        for bare in ("jump", "farjump"):
            for ahead, behind in (([], []), ([("stop",)], []), ([("stop",), ("skip", 2)], [("skip", 1)]), ([], [("tell", "a")])):
                start = len(text_of(form, ahead))
                end = start + len(text_of(form, [(bare, 0)]))
                length = end + len(text_of(form, behind))
                for distance in (-end - 1, -end - 5, -128, length - end + 1, length - end + 9, 127, -end + 1, length - end - 1):
                    goals = [0, start, end, length] + [len(text_of(form, ahead[:1]))]
                    if end + distance not in goals:
                        answer = told(parsed, (form, text_of(form, ahead + [(bare, distance)] + behind)))
                        self.assertEqual(answer, refused("NoTarget", "place", start), distance)
                for distance in (-end, length - end, -end + start):
                    answer = parsed(form, text_of(form, ahead + [(bare, distance)] + behind))
                    rows = [one for one in ahead if one[0] != "skip"]
                    self.assertEqual(answer[len(rows)][0], "jump")
                    more = [one for one in behind if one[0] != "skip"]
                    self.assertEqual(answer[len(rows)][1], {-end: 0, length - end: len(rows) + 1 + len(more), -end + start: len(rows)}[distance])

    def test_the_first_jump_that_leads_elsewhere(self):
        form = even_form(4, 10)
        self.assertEqual(told(parsed, (form, text_of(form, [("jump", 0), ("jump", 1), ("jump", -1)]))), refused("NoTarget", "place", 8))
        self.assertEqual(told(parsed, (form, text_of(form, [("skip", 4), ("farjump", 1), ("farjump", 1)]))), refused("NoTarget", "place", 11))
        with self.assertRaises(OddError):
            parsed(form, text_of(form, [("jump", 1)]))

    def test_bad_texts_go_first(self):
        source = random.Random(305)
        both = 0
        for _ in range(600):
            form = random_form(source, most_far=8)
            bares, places = some_jumping_bares(source, form, source.randint(0, 8), source.choice([0, 0.3]))
            text = spoilt(source, text_of(form, bares))
            bad = told(bares_of, (form, text))
            if isinstance(bad, tuple):
                self.assertEqual(bad[1], "BadText")
                self.assertEqual(told(parsed, (form, text)), bad)
                both += isinstance(program_by_hand(bares, places), int)
            else:
                found = [place for place, bare in bad] + [len(text)]
                expected = program_by_hand([bare for place, bare in bad], found)
                expected = refused("NoTarget", "place", expected) if isinstance(expected, int) else expected
                self.assertTrue(same(told(parsed, (form, text)), expected))
        self.assertGreater(both, 40)
        form = even_form(4, 10)
        with self.assertRaises(BadText) as caught:
            parsed(form, text_of(form, [("jump", 1), ("stop",)]) + "1")
        self.assertEqual(caught.exception.place, 12)

    def test_20000_signs(self):
        form = even_form(8, 16)
        row = [("set", "a", 255), ("skip", 7), ("farzero", "b", -400), ("tell", "a"), ("jump", 0)]
        bares = row * 276
        places = [0]
        for bare in bares:
            places.append(places[-1] + len(written_bare(form, bare)))
        self.assertTrue(19500 < places[-1] <= 20000, places[-1])
        for at, bare in enumerate(bares):
            if bare[0] == "farzero":
                goal = places[at * 7 % len(places)]
                bares[at] = ("farzero", "b", goal - places[at + 1])
        self.assertTrue(same(parsed(form, text_of(form, bares)), program_by_hand(bares, places)))

    def test_own(self):
        form = even_form(4, 10)
        for bares in ([], [("skip", 2)], [("stop",), ("jump", -4)], [("jump", 1)], [("jump", -8), ("farzero", "a", 0)]):
            check_own(self, parsed, form, text_of(form, bares))
            check_own(self, parsed, form, text_of(form, bares) + "1")


def wide_form():
    """A form of long codes, with few figures: far jumps are missed soon."""
    return even_form(2, 5)


class CarriedTest(unittest.TestCase):
    def test_what_made_tells_of_the_new_form(self):
        source = random.Random(311)
        ends = {}
        for _ in range(400):
            old, new = random_form(source, most_far=source.choice([6, 16])), random_form(source, most_far=source.choice([5, 16]))
            bares, places = some_jumping_bares(source, old, source.randint(0, 12), source.choice([0, 0, 0.2]))
            text = text_of(old, bares)
            if source.random() < 0.2:
                text = spoilt(source, text)
            program = told(parsed, (old, text))
            expected = program if isinstance(program, tuple) else told(made, (new, program))
            self.assertTrue(same(told(carried, (old, new, text)), expected))
            kind = expected[1] if expected[0] == "refused" else "told"
            ends[kind] = ends.get(kind, 0) + 1
        self.assertTrue(all(ends.get(kind, 0) > 20 for kind in ("told", "BadText", "NoTarget", "TooFar")), ends)

    def test_it_runs_as_the_old_text(self):
        source = random.Random(312)
        ends = {}
        while sum(ends.values()) < 250:
            old, new = random_form(source), random_form(source)
            bares, places = some_jumping_bares(source, old, source.randint(0, 14))
            text = text_of(old, bares)
            answer = told(carried, (old, new, text))
            if answer[0] == "refused":
                continue
            given = [source.choice([0, 0, 1, source.randrange(256)]) for _ in range(source.randint(0, 8))]
            for steps in (0, 1, 2, 3, 5, 8, 13, 40):
                one, other = run_signs(old, text, given, steps), run_signs(new, answer[0], given, steps)
                self.assertTrue(same(one[:3], other[:3]), (bares, steps))
                self.assertEqual(carried_place(old, new, text, one[3]), other[3])
            ends[one[1]] = ends.get(one[1], 0) + 1
        self.assertTrue(min(ends.get("stopped", 0), ends.get("going", 0)) > 30, ends)

    def test_there_and_back(self):
        source = random.Random(313)
        for _ in range(100):
            old, new = random_form(source, near=8), random_form(source, near=8)
            program = random_program(source, source.randint(0, 12), 0.3)
            first = told(made, (old, program))
            if first[0] != "refused" and told(carried, (old, new, first[0]))[0] != "refused":
                self.assertTrue(same(carried(new, old, carried(old, new, first[0])[0]), first))

    def test_refusals_in_their_order(self):
        old, new = even_form(4, 10), wide_form()
        far = [("set", "a", 255)] * 3 + [("farjump", -65)]
        self.assertEqual(len(text_of(old, far)), 65)
        self.assertEqual(told(carried, (old, old, text_of(old, far)))[2], [3])
        self.assertEqual(told(carried, (old, new, text_of(old, far))), refused("TooFar", "row", 3))
        self.assertEqual(told(carried, (old, new, text_of(old, [("skip", 0)] + far))), refused("TooFar", "row", 3))
        elsewhere = far + [("jump", 1)]
        self.assertEqual(told(carried, (old, new, text_of(old, elsewhere))), refused("NoTarget", "place", 65))
        self.assertEqual(told(carried, (old, new, text_of(old, elsewhere) + "1111")), refused("BadText", "place", 73))
        self.assertEqual(told(carried, (old, new, text_of(old, far) + "1111")), refused("BadText", "place", 65))
        with self.assertRaises(TooFar):
            carried(old, new, text_of(old, far))

    def test_long_texts_of_many_jumps(self):
        old, new = even_form(8, 16), even_form(2, 16)
        source = random.Random(314)
        program = random_program(source, 900, 0.9)
        text, places, fars = made(old, program)
        self.assertLess(len(text), 20000)
        answer = carried(old, new, text)
        self.assertTrue(same(answer, made(new, program)))
        self.assertGreater(len(answer[2]), 700)
        self.assertTrue(same(parsed(new, answer[0]), program))
        self.assertEqual(carried_place(old, new, text, places[-1]), len(answer[0]))

    def test_own(self):
        old, new = even_form(4, 10), even_form(2, 9)
        for bares in ([], [("skip", 2)], [("stop",), ("jump", -4), ("farjump", 0)], [("jump", 1)]):
            check_own(self, carried, old, new, text_of(old, bares))
            check_own(self, carried, old, new, text_of(old, bares) + "1")


class CarriedPlaceTest(unittest.TestCase):
    def test_written_out(self):
        old = even_form(4, 10)
        bares = [("skip", 0), ("skip", 1), ("ask", "a"), ("stop",), ("skip", 2), ("tell", "a"), ("skip", 0)]
        # The old rows are at 0, 7, 15, 21, 25, 34, 40 and the end at 47; the new ones at 0, 6, 10 and the end at 16.
        expected = {0: 0, 7: 0, 15: 0, 21: 6, 25: 10, 34: 10, 40: 16, 47: 16}
        for place in range(60):
            answer = told(carried_place, (old, old, text_of(old, bares), place))
            self.assertEqual(answer, expected.get(place, ("refused", "NoPlace", {})), place)
        self.assertTrue(same(carried_place(old, old, "", 0), 0))
        for place in (1, 2, 10 ** 12):
            with self.assertRaises(NoPlace):
                carried_place(old, old, "", place)

    def test_each_place(self):
        source = random.Random(321)
        skips = 0
        for _ in range(200):
            old, new = random_form(source, most_far=source.choice([6, 16])), random_form(source)
            bares, places = some_jumping_bares(source, old, source.randint(0, 8))
            text = text_of(old, bares)
            answer = told(carried, (old, new, text))
            if answer[0] == "refused":
                continue
            rows = [at for at, bare in enumerate(bares) if bare[0] != "skip"]
            skips += len(bares) - len(rows)
            expected = {}
            for at, place in enumerate(places):
                later = [row for row in rows if row >= at]
                expected[place] = answer[1][rows.index(later[0])] if later else len(answer[0])
            for place in range(len(text) + 12):
                found = told(carried_place, (old, new, text, place))
                self.assertTrue(same(found, expected.get(place, ("refused", "NoPlace", {}))), (bares, place, found))
        self.assertGreater(skips, 50)

    def test_behind_all_other_refusals(self):
        old, new = even_form(4, 10), wide_form()
        far = [("set", "a", 255)] * 3 + [("farjump", -65)]
        for bares, more in ((far, ""), (far + [("jump", 1)], ""), (far + [("jump", 1)], "1111"), ([("stop",)], "1")):
            text = text_of(old, bares) + more
            expected = told(carried, (old, new, text))
            self.assertEqual(expected[0], "refused")
            for place in (0, 1, 19, len(text), len(text) + 1, 10 ** 12):
                self.assertEqual(told(carried_place, (old, new, text, place)), expected)
        self.assertEqual(told(carried_place, (old, new, text_of(old, [("stop",)]), 1)), ("refused", "NoPlace", {}))

    def test_own(self):
        old, new = even_form(4, 10), even_form(2, 9)
        for place in (0, 1, 4, 12, 20):
            check_own(self, carried_place, old, new, text_of(old, [("stop",), ("jump", -4)]), place)


class AllKindsTest(unittest.TestCase):
    def test_every_kind_of_row_is_carried(self):
        old, new = even_form(4, 16), random_form(random.Random(331), near=5)
        rows = [("set", spot, number) for spot in SPOTS for number in (0, 1, 2, 3, 127, 128, 255)]
        rows += [(kind, one, other) for kind in ("add", "take") for one in SPOTS for other in SPOTS]
        rows += [(kind, spot) for kind in ("tell", "ask") for spot in SPOTS] + [("stop",)]
        rows += [("jump", 0), ("jump", 100)] + [("zero", spot, at) for spot in SPOTS for at in (0, 3, 100)]
        rows += [("stop",)] * (100 - len(rows))
        self.assertEqual({row[0] for row in rows} | {"farjump", "farzero", "skip"}, set(KINDS))
        self.assertEqual({len(format(row[2], "b")) if row[2] else 0 for row in rows if row[0] == "set"} - set(range(len(SIZES))), set())
        text = made(old, rows)[0]
        self.assertTrue(same(parsed(old, text), rows))
        if told(made, (new, rows))[0] != "refused":
            self.assertTrue(same(parsed(new, carried(old, new, text)[0]), rows))


if __name__ == "__main__":
    unittest.main()
