import itertools
import random
import unittest

from oddlong.overlay import shows_none, stands_of, two_programs
from tests.helper import (all_free_books, begins, check_own, deep, ends_by_hand, free_books_of_many_kinds, great_free_books, names_of, odd_things,
                          random_thing, same)


# Codes of which the least text of two programs of six names each has 72 signs.
LONG = [
    ["101100101000", "101110001011", "101110111000", "00101000"],
    ["00111011", "101101010101", "101100111011", "010101010101", "001100110011"],
    ["100010001010", "101000011010", "00011010", "100010000001", "000100011010", "100010001000", "10001010"],
    ["001100111111", "001100110011", "11111110", "111111110011", "111011111110", "111111111110"],
    ["10000100", "100110000100", "1100110000", "00100100", "0010000", "100110011001"],
    ["10000000", "000000101000", "001010000000", "001000100010", "000000100010"],
]


def read_whole(book, text):
    """The pair of the names and the places of a text, None where it can't be read."""
    names, places = [], [0]
    while places[-1] < len(text):
        found = [(name, code) for name, code in book if text.startswith(code, places[-1])]
        if not found:
            return None
        names.append(found[0][0])
        places.append(places[-1] + len(found[0][1]))
    return names, places


def told_at(book, many, text, place):
    """The tuple of a text and a place, where it is such a one by the words of the document; else None."""
    one, other = read_whole(book, text), read_whole(book, text[place:])
    if one is None or other is None or not one[0] or not 0 < place < one[1][1]:
        return None
    if len(one[0]) < many or len(other[0]) < many:
        return None
    if {at for at in one[1][:-1] if at >= 1} & {place + at for at in other[1][:-1]}:
        return None
    return (text, place, one[0], other[0])


def least_of_all(book, many, longest):
    """The first of all texts of at most so many signs, by length, as texts stand, then by place, all gone through."""
    for length in range(1, longest + 1):
        for signs in itertools.product("01", repeat=length):
            for place in range(1, length):
                found = told_at(book, many, "".join(signs), place)
                if found:
                    return found
    return None


def least_by_signs(book, many):
    """The pair (text, place), of whatever length: both readings are gone through sign by sign, side by side."""
    codes = [code for name, code in book]
    waiting = {}
    for code in codes:
        for place in range(1, len(code)):
            for other in codes:
                state = (code[place:], other, 1, 1)
                keep_least(waiting.setdefault(place, {}), state, (code[:place], place))
    seen, level = set(), 0
    while waiting:
        level += 1
        now = waiting.pop(level, {})
        ends = []
        for state, (text, place) in now.items():
            one, other, ones, others = state
            if state in seen or one[0] != other[0]:
                continue
            text += one[0]
            if one[1:] == other[1:] == "":
                if ones >= many and others >= many:
                    ends.append((text, place))
                continue
            for left, more in [(one[1:], 0)] if one[1:] else [(code, 1) for code in codes]:
                for right, also in [(other[1:], 0)] if other[1:] else [(code, 1) for code in codes]:
                    later = (left, right, min(ones + more, many), min(others + also, many))
                    keep_least(waiting.setdefault(level + 1, {}), later, (text, place))
        if ends:
            return min(ends)
        seen.update(now)
    return None


def keep_least(least, state, pair):
    least[state] = min(pair, least.get(state, pair))


def stands_behind(codes, many, stand):
    """The stands that come of a stand and each code, by the words of the document."""
    lag, ahead, ones, others = stand
    found = []
    for code in codes:
        counts = (ones, min(others + 1, many)) if ahead == "one" else (min(ones + 1, many), others)
        if code != lag and begins(code, lag):
            found.append((lag[len(code):], ahead) + counts)
        elif code != lag and begins(lag, code):
            found.append((code[len(lag):], "other" if ahead == "one" else "one") + counts)
    return found


def stands_by_hand(book, many):
    """All stands: passes over all of them till nothing comes."""
    codes = [code for name, code in book]
    found = {(end, "one", 1, 0) for end in ends_by_hand(book)}
    while True:
        more = {later for stand in found for later in stands_behind(codes, many, stand)} - found
        if not more:
            return sorted(found)
        found |= more


def ends_text(codes, many, stand):
    """Whether a stand's lag is alike a code with which both have many names."""
    lag, ahead, ones, others = stand
    return lag in codes and (ones + (ahead == "other") >= many) and (others + (ahead == "one") >= many)


def none_by_words(book, many, thing):
    """Whether a thing is such a list, by the words of the document."""
    if thing.__class__ is not list:
        return False
    codes = [code for name, code in book]
    for part in thing:
        if part.__class__ is not tuple or len(part) != 4:
            return False
        lag, ahead, *counts = part
        if not isinstance(lag, str) or lag == "" or any(sign not in "01" for sign in lag):
            return False
        if not isinstance(ahead, str) or ahead not in ["one", "other"]:
            return False
        if any(count.__class__ is not int or count < 0 or count > many for count in counts):
            return False
    if any((end, "one", 1, 0) not in thing for end in ends_by_hand(book)):
        return False
    held = set(thing)
    return all(not ends_text(codes, many, stand) and set(stands_behind(codes, many, stand)) <= held for stand in thing)


class TwoProgramsTest(unittest.TestCase):
    def check(self, book, many):
        """Beside a search sign by sign; how many signs the text has, 0 where there's none."""
        expected = least_by_signs(book, many)
        told = two_programs(book, many)
        if expected is None:
            self.assertIsNone(told, (book, many))
            return 0
        text, place = expected
        self.assertTrue(same(told, told_at(book, many, text, place)), (book, many, told, expected))
        return len(text)

    def test_written_out(self):
        book = [("a", "0"), ("b", "10"), ("c", "11")]
        self.assertTrue(same(two_programs(book, 1), ("10", 1, ["b"], ["a"])))
        self.assertTrue(same(two_programs(book, 2), ("1110", 1, ["c", "b"], ["c", "a"])))
        self.assertTrue(same(two_programs(book, 3), ("111110", 1, ["c", "c", "b"], ["c", "c", "a"])))
        self.assertTrue(same(two_programs([("a", "100"), ("b", "0")], 1), ("100", 1, ["a"], ["b", "b"])))
        # Within one text there's a choice of places.
        self.assertTrue(same(two_programs([("a", "0001"), ("b", "01"), ("c", "001"), ("d", "1")], 1), ("01", 1, ["b"], ["d"])))
        self.assertTrue(same(two_programs([("a", "0001"), ("b", "01"), ("c", "001")], 1), ("001", 1, ["c"], ["b"])))
        self.assertTrue(same(two_programs([("a", "0001"), ("c", "001"), ("d", "1")], 1), ("001", 2, ["c"], ["d"])))
        self.assertTrue(same(two_programs([("a", "111110"), ("b", "1110"), ("c", "0")], 2), None))
        for many in range(1, 7):
            self.assertIsNone(two_programs([("a", "0")], many))
            self.assertIsNone(two_programs([("a", "0"), ("b", "1")], many))
            self.assertIsNone(two_programs([("a", "00")], many))
            self.assertIsNone(two_programs([("a", "01"), ("b", "10")], many))

    def test_beside_all_short_texts(self):
        source = random.Random(261)
        found = {}
        for book in source.sample(all_free_books(3), 45):
            for many in range(1, 5):
                least = least_of_all(book, many, 10)
                told = two_programs(book, many)
                if least is not None:
                    self.assertTrue(same(told, least), (book, many, told, least))
                    found[many] = found.get(many, 0) + 1
                else:
                    self.assertTrue(told is None or len(told[0]) > 10)
                    break
        self.assertTrue(all(found.get(many, 0) > 5 for many in (1, 2, 3, 4)), found)

    def test_all_books_of_short_codes(self):
        found = {}
        for at, book in enumerate(all_free_books(3)):
            for many in (1, 2, 3 + at % 4):
                signs = self.check(book, many)
                found[(many, signs > 0)] = found.get((many, signs > 0), 0) + 1
        self.assertTrue(all(found.get((many, told), 0) > 20 for many in range(1, 7) for told in (True, False)), found)

    def test_books_of_many_kinds(self):
        source = random.Random(262)
        found = []
        for book in free_books_of_many_kinds(source, 40):
            for many in range(1, 7):
                found.append(self.check(book, many))
        self.assertGreater(max(found), 20)
        self.assertGreater(found.count(0), 100)
        self.assertGreater(len(found) - found.count(0), 100)

    def test_of_several_texts_the_first_then_the_least_place(self):
        source = random.Random(263)
        places = 0
        for _ in range(300):
            # Codes that end alike, so that several places of one text will do.
            codes = sorted({source.choice(["", "0", "00", "000", "01"]) + source.choice(["1", "11", "101"]) for _ in range(5)})
            codes = [code for code in codes if not any(begins(one, code) for one in codes if one != code)]
            book = list(zip(names_of(len(codes)), source.sample(codes, len(codes))))
            for many in (1, 2, 3):
                self.check(book, many)
                told = two_programs(book, many)
                if told is not None:
                    text, place, one, other = told
                    self.assertTrue(all(told_at(book, many, text, ahead) is None for ahead in range(1, place)))
                    places += any(told_at(book, many, text, behind) for behind in range(place + 1, len(text)))
        self.assertGreater(places, 30)

    def test_long_least_texts(self):
        for codes in LONG:
            book = list(zip(names_of(len(codes)), codes))
            self.assertEqual(self.check(book, 6), 72)
            for many in range(1, 6):
                self.check(book[::-1], many)

    def test_books_at_the_bounds(self):
        source = random.Random(264)
        found = [self.check(book, many) for book in great_free_books(source, 6) for many in (1, 6)]
        codes = ["0" * many + "1" for many in range(11)] + ["0" * 11]
        for many in (1, 3, 6):
            found.append(self.check(list(zip(names_of(12), codes)), many))
        for drawn in range(6):
            book = [(name, code) for name, code in great_free_books(source, 1)[-1][:11] if not begins("111", code)]
            found.append(self.check(book + [("zz", "111")], 6))
        self.assertTrue(any(found) and 0 in found)

    def test_own(self):
        for book in free_books_of_many_kinds(random.Random(265), 3) + [[("a", "0"), ("b", "10"), ("c", "11")]]:
            for many in (1, 3):
                check_own(self, two_programs, book[:], many)


class StandsTest(unittest.TestCase):
    def test_written_out(self):
        self.assertTrue(same(stands_of([("a", "0")], 1), []))
        self.assertTrue(same(stands_of([("a", "0"), ("b", "1")], 6), []))
        self.assertTrue(same(stands_of([("a", "0"), ("b", "10")], 2), [("0", "one", 1, 0)]))
        self.assertTrue(same(stands_of([("a", "00")], 1), [("0", "one", 1, 0), ("0", "one", 1, 1), ("0", "other", 1, 1)]))
        self.assertTrue(same(stands_of([("a", "00")], 2), [("0", "one", 1, 0), ("0", "one", 2, 1), ("0", "one", 2, 2), ("0", "other", 1, 1),
                                                           ("0", "other", 2, 2)]))
        # As tuples stand, not by length.
        self.assertTrue(same(stands_of([("a", "100"), ("b", "0")], 1), [("0", "one", 1, 0), ("0", "one", 1, 1), ("00", "one", 1, 0)]))
        self.assertTrue(same(stands_of([("a", "0011")], 1), [("011", "one", 1, 0), ("1", "one", 1, 0), ("11", "one", 1, 0)]))

    def check(self, book, many):
        stands = stands_of(book, many)
        self.assertTrue(same(stands, stands_by_hand(book, many)), (book, many))
        codes = [code for name, code in book]
        self.assertEqual(any(ends_text(codes, many, stand) for stand in stands), two_programs(book, many) is not None)

    def test_all_books_of_short_codes(self):
        for at, book in enumerate(all_free_books(3)):
            self.check(book, 1 + at % 6)

    def test_books_of_many_kinds(self):
        for book in free_books_of_many_kinds(random.Random(271), 10):
            for many in (1, 2, 4, 6):
                self.check(book, many)

    def test_books_at_the_bounds(self):
        for book in great_free_books(random.Random(272), 4):
            self.check(book, 6)

    def test_own(self):
        for book in [[("a", "00")], [("a", "0")], [("a", "0"), ("b", "10"), ("c", "11")]]:
            for many in (1, 4):
                check_own(self, stands_of, book[:], many)


def stands_changed(book, many, paper):
    """The paper with one thing otherwise, at any place."""
    yield tuple(paper)
    yield [paper]
    yield paper + [()]
    yield paper + [None]
    yield [list(stand) for stand in paper]
    for lag in ("0", "1", "01", "110", "0" * 30, book[-1][1], "", "2", "0 ", "x", 0, None, True, ["0"], deep(27)):
        for ahead in ("one", "other"):
            yield paper + [(lag, ahead, 0, 0)]
            yield [(lag, ahead, many, many)] + paper
            yield paper + [(lag, ahead, many, 0), (lag, ahead, 0, many)]
    for at, stand in enumerate(paper):
        ahead, behind = paper[:at], paper[at + 1:]
        lag, side, ones, others = stand
        yield ahead + behind
        yield ahead + [stand, stand] + behind
        yield paper + [stand]
        for other in ((lag, "other" if side == "one" else "one", ones, others), (lag, side, others, ones), (lag, side, ones + 1, others),
                      (lag, side, ones, others + 1), (lag, side, ones - 1, others), (lag, side, ones, others - 1), (lag, side, many + 1, others),
                      (lag, side, -1, others), (lag, side, True, others), (lag, side, ones, False), (lag, side, None, others),
                      (lag, side, str(ones), others), (lag, side, ones), (lag, side, ones, others, 0), (lag, "", ones, others), (lag, "on", ones, others),
                      (lag, "One", ones, others), (lag, True, ones, others), (lag, [side], ones, others), (lag, None, ones, others),
                      (lag + "0", side, ones, others), ("1" + lag, side, ones, others), (lag[1:], side, ones, others), ("", side, ones, others),
                      (side, lag, ones, others), (ones, side, lag, others), list(stand), (stand,), lag, None, True, 0,
                      (lag, side, (ones, others)), (lag, side, [ones], others), (deep(27), side, ones, others), (lag, deep(27), ones, others),
                      (lag, side, ones, deep(27))):
            yield ahead + [other] + behind


class ShowsNoneTest(unittest.TestCase):
    def check(self, book, many, thing):
        expected = none_by_words(book, many, thing)
        self.assertIs(shows_none(book, many, thing), expected, (book, many, thing))
        return expected

    def papers(self, source, rounds):
        """Books, numbers and all their stands, where there's no text."""
        books = all_free_books(3) + free_books_of_many_kinds(source, rounds)
        papers = [(book, many, stands_of(book, many)) for book in books for many in (1, source.randint(2, 6)) if two_programs(book, many) is None]
        self.assertGreater(len(papers), 200)
        return papers

    def test_written_out(self):
        self.assertIs(shows_none([("a", "0")], 1, []), True)
        self.assertIs(shows_none([("a", "0"), ("b", "10")], 1, [("0", "one", 1, 0)]), False)
        self.assertIs(shows_none([("a", "0"), ("b", "10")], 2, [("0", "one", 1, 0)]), True)
        self.assertIs(shows_none([("a", "0"), ("b", "10")], 2, [("0", "one", 2, 1), ("0", "one", 1, 0)]), False)
        self.assertIs(shows_none([("a", "0"), ("b", "10")], 2, [("0", "other", 1, 2), ("0", "one", 1, 0)]), False)
        self.assertIs(shows_none([("a", "0"), ("b", "10")], 2, [("0", "one", 1, 2), ("0", "one", 1, 0)]), True)
        self.assertIs(shows_none([("a", "0"), ("b", "10")], 2, [("0", "other", 2, 1), ("0", "one", 1, 0)]), True)
        self.assertIs(shows_none([("a", "0"), ("b", "10")], 2, []), False)
        self.assertIs(shows_none([("a", "00")], 1, [("0", "one", 1, 0), ("0", "one", 1, 1), ("0", "other", 1, 1)]), True)
        self.assertIs(shows_none([("a", "00")], 1, [("0", "one", 1, 0), ("0", "one", 1, 1)]), False)
        self.assertIs(shows_none([("a", "00")], 1, [("0", "one", 1, 0), ("0", "one", True, 1), ("0", "other", 1, 1)]), False)
        self.assertIs(shows_none([("a", "00")], 1, [("0", "one", 1, False), ("0", "one", 1, 1), ("0", "other", 1, 1)]), False)

    def test_numbers_beyond_their_bounds(self):
        # Nothing comes of this lag and a code, so its numbers alone are at fault.
        book, first = [("a", "0"), ("b", "10")], ("0", "one", 1, 0)
        for many in (2, 6):
            for number in range(many + 1):
                self.assertIs(shows_none(book, many, [first, ("11", "one", number, many)]), True)
                self.assertIs(shows_none(book, many, [("11", "other", 0, number), first]), True)
            for number in (-1, many + 1, -10 ** 20, 10 ** 20, True, False, None, "1"):
                for side in ("one", "other"):
                    self.assertIs(shows_none(book, many, [first, ("11", side, number, 0)]), False)
                    self.assertIs(shows_none(book, many, [first, ("11", side, 1, number)]), False)

    def test_what_is_told_in_any_order_some_twice(self):
        source = random.Random(281)
        for book, many, paper in self.papers(source, 20):
            self.assertIs(shows_none(book, many, paper), True)
            twice = paper + source.sample(paper, len(paper) // 2)
            self.assertIs(shows_none(book, many, source.sample(twice, len(twice))), True)
            self.assertIs(shows_none(book, many, paper[::-1]), True)

    def test_more_stands_that_keep_it(self):
        source = random.Random(282)
        right = wrong = 0
        for book, many, paper in self.papers(source, 10):
            codes = [code for name, code in book]
            lags = ends_by_hand(book) + ["0", "1", "0101", "111", "000"]
            for _ in range(3):
                more = [(source.choice(lags), source.choice(["one", "other"]), source.randint(0, many), source.randint(0, many))]
                for stand in more:
                    more += [later for later in stands_behind(codes, many, stand) if later not in more and later not in paper]
                for thing in (paper + more, more + paper, paper + more[:-1]):
                    shown = self.check(book, many, thing)
                    right, wrong = right + shown, wrong + (not shown)
        self.assertGreater(min(right, wrong), 100)

    def test_one_thing_otherwise(self):
        source = random.Random(283)
        right = wrong = 0
        papers = [(book, many, paper) for book, many, paper in self.papers(source, 10) if len(paper) < 25]
        for book, many, paper in source.sample(papers, 60):
            for thing in stands_changed(book, many, source.sample(paper, len(paper))):
                shown = self.check(book, many, thing)
                right, wrong = right + shown, wrong + (not shown)
        self.assertGreater(min(right, wrong), 300)

    def test_one_stand_left_out(self):
        source = random.Random(284)
        for book, many, paper in self.papers(source, 5):
            for at in range(0, len(paper), 1 + len(paper) // 10):
                self.assertIs(shows_none(book, many, paper[:at] + paper[at + 1:]), False)

    def test_where_there_is_a_text(self):
        source = random.Random(285)
        many_texts = 0
        for book in source.sample(all_free_books(3), 150):
            for many in range(1, 7):
                if two_programs(book, many) is not None:
                    many_texts += 1
                    stands = stands_of(book, many)
                    codes = [code for name, code in book]
                    self.assertIs(shows_none(book, many, stands), False)
                    self.assertIs(shows_none(book, many, [stand for stand in stands if not ends_text(codes, many, stand)]), False)
                    self.assertIs(shows_none(book, many, []), False)
        self.assertGreater(many_texts, 100)

    def test_other_books_and_numbers(self):
        source = random.Random(286)
        right = wrong = 0
        for book, many, paper in source.sample(self.papers(source, 3), 150):
            for asked in ((book[1:] or book, many), (book[::-1], many), (book, many % 6 + 1), (book, max(many - 1, 1)),
                          (source.choice(all_free_books(2)), many)):
                shown = self.check(*asked, paper)
                right, wrong = right + shown, wrong + (not shown)
        self.assertGreater(min(right, wrong), 100)

    def test_books_at_the_bounds(self):
        shown = 0
        for book in great_free_books(random.Random(287), 10):
            stands = stands_of(book, 6)
            told = two_programs(book, 6)
            self.assertIs(shows_none(book, 6, stands), told is None)
            if told is None and stands:
                shown += 1
                self.assertIs(shows_none(book, 6, stands[:-1]), False)
                self.assertIs(shows_none(book, 6, stands * 3), True)
        self.assertGreater(shown, 3)

    def test_wrong_things(self):
        source = random.Random(288)
        for book in ([("a", "0"), ("b", "10")], [("a", "00")]):
            for thing in odd_things() + [[], (("0", "one", 1, 0),), [["0", "one", 1, 0]]]:
                self.assertIs(shows_none(book, 2, thing), False, thing)
            for _ in range(2000):
                thing = random_thing(source)
                for paper in (thing, [thing], [("0", "one", 1, 0), thing], [(thing, "one", 1, 0)], [("0", thing, 1, 0)], [("0", "one", thing, 0)],
                              [("0", "one", 1, 0), ("1", "one", 1, thing)]):
                    self.check(book, 2, paper)
        for thing in odd_things():
            self.assertIs(shows_none([("a", "0")], 2, thing), False, thing)

    def test_own(self):
        book = [("a", "00")]
        for thing in (stands_of(book, 2), [], [["0", "one", 1, 0]], None, [("0", "one", 1, 0), [[]]]):
            check_own(self, shows_none, book[:], 2, thing)


if __name__ == "__main__":
    unittest.main()
