import itertools
import random
import unittest

from oddlong.errors import BadText
from oddlong.stepcheck import shows_ring
from oddlong.stepping import greatest_delay, in_step, lags_of, never_ring, ranks_of
from oddlong.texts import bounds_of, read_all, read_from, written
from tests.helper import (all_free_books, begins, check_own, come_of, ends_by_hand, free_books_of_many_kinds, great_free_books, names_of,
                          random_free_book, same)


KINDS = ("never, and reads some", "never, and reads none", "at once", "at the end", "later")


def begins_from(codes, text, place):
    """The places where a reading from a place on stands, the last the one where no code can be read."""
    places = [place]
    while True:
        found = [code for code in codes if text.startswith(code, places[-1])]
        if not found:
            return places
        places.append(places[-1] + len(found[0]))


def step_by_hand(book, text, place):
    """What in_step tells, by the words of the document; the bad place of a text that can't be read."""
    codes = [code for name, code in book]
    true = begins_from(codes, text, 0)
    if true[-1] != len(text):
        return ("bad", true[-1])
    both = set(true) & set(begins_from(codes, text, place))
    return min(both) if both else None


class SignByPairs:
    """Two readings gone through sign by sign, side by side: what is left of their codes, till both end at once."""

    def __init__(self, book):
        self.codes = [code for name, code in book]
        self.states = {}
        waiting = [(end, code) for end in ends_by_hand(book) for code in self.codes]
        self.first = waiting[:]
        while waiting:
            state = waiting.pop()
            if state not in self.states:
                self.states[state] = self.later(state)
                waiting += [one for one in self.states[state] if one]

    def later(self, state):
        """The states behind one sign more; None among them where both readings come together."""
        one, other = state
        if one[0] != other[0]:
            return []
        if one[1:] == other[1:] == "":
            return [None]
        return [(left, right) for left in ([one[1:]] if one[1:] else self.codes) for right in ([other[1:]] if other[1:] else self.codes)]

    def goes_on_for_ever(self):
        """Whether two readings go on for ever and never come together."""
        ends = set()
        while True:
            more = {state for state, later in self.states.items() if state not in ends and all(one is None or one in ends for one in later)}
            if not more:
                return len(ends) < len(self.states)
            ends |= more

    def greatest(self):
        """The greatest number of signs till both come together; 0 where they never do. There's no ring here."""
        known = {None: 0}

        def signs(state):
            if state not in known:
                known[state] = max([1 + signs(later) for later in self.states[state] if signs(later) is not None], default=None)
            return known[state]

        return max([signs(state) for state in self.first if signs(state) is not None], default=0)


def most_codes(codes, ahead, behind):
    """The greatest number of codes read, each by the reading that lags: both readings' whole texts are kept."""
    best = 0
    for code in codes:
        longer = behind + code
        if longer == ahead:
            best = max(best, 1)
        elif begins(longer, ahead):
            best = max(best, 1 + most_codes(codes, ahead, longer))
        elif begins(ahead, longer):
            best = max(best, 1 + most_codes(codes, longer, ahead))
    return best


def all_texts(book, longest):
    """All texts of a book with at most so many signs, each with the places where codes begin."""
    waiting = [("", [0])]
    for text, places in waiting:
        yield text, places
        for name, code in book:
            if len(text + code) <= longest:
                waiting.append((text + code, places + [len(text + code)]))


def greatest_of_all(book, longest):
    """The greatest number of signs from a place within a code to where both readings come together, all short texts gone through."""
    codes = [code for name, code in book]
    greatest = 0
    for text, true in all_texts(book, longest):
        for place in range(len(text)):
            if place not in true:
                both = [at for at in begins_from(codes, text, place) if at in true]
                if both:
                    greatest = max(greatest, both[0] - place)
    return greatest


def some_text(source, book, signs):
    """A text of any names, of so many signs or a few more."""
    names, many = [], 0
    while many < signs:
        name, code = source.choice(book)
        names.append(name)
        many += len(code)
    return written(book, names)


class InStepTest(unittest.TestCase):
    def check(self, book, text, place):
        expected = step_by_hand(book, text, place)
        if isinstance(expected, tuple):
            with self.assertRaises(BadText) as caught:
                in_step(book, text, place)
            self.assertTrue(same(caught.exception.place, expected[1]))
            return "refused"
        told = in_step(book, text, place)
        self.assertTrue(same(told, expected), (book, text, place, told, expected))
        if told is None:
            # It breaks off: at the text's end both would come together.
            names, end = read_from(book, text, place)
            self.assertLess(end, len(text))
            return "never, and reads some" if names else "never, and reads none"
        names, end = read_from(book, text, told)
        self.assertEqual((names, end), (read_all(book, text)[bounds_of(book, text).index(told):], len(text)))
        return "at once" if told == place else "at the end" if told == len(text) else "later"

    def test_written_out(self):
        book = [("a", "0"), ("b", "10"), ("c", "11")]
        text = written(book, ["c", "b", "c", "c", "a"])
        self.assertEqual(text, "111011110")
        self.assertEqual([in_step(book, text, place) for place in range(10)], [0, 4, 2, 4, 4, 9, 6, 9, 8, 9])
        even = [("a", "00"), ("b", "01"), ("c", "10"), ("d", "11")]
        self.assertEqual([in_step(even, "0010", place) for place in range(5)], [0, None, 2, None, 4])
        gaps = [("a", "011"), ("b", "10")]
        self.assertEqual([in_step(gaps, "01110", place) for place in range(6)], [0, None, None, 3, None, 5])
        self.assertEqual([in_step(gaps, "10011", place) for place in range(6)], [0, None, 2, None, None, 5])
        one = [("a", "000")]
        self.assertEqual([in_step(one, "000000", place) for place in range(7)], [0, None, None, 3, None, None, 6])
        self.assertEqual(in_step(one, "", 0), 0)
        self.assertEqual([in_step([("a", "0")], "000", place) for place in range(4)], [0, 1, 2, 3])

    def test_readings_that_come_together_at_the_end_alone(self):
        book = [("a", "01"), ("b", "1"), ("c", "001")]
        self.assertEqual([in_step(book, "001", place) for place in range(4)], [0, 3, 3, 3])
        # From 4 on 11 is read, and from 6 on nothing.
        broken = [("a", "11"), ("b", "10"), ("c", "011")]
        self.assertEqual([in_step(broken, "1101110", place) for place in range(8)], [0, 5, 2, 5, None, 5, None, 7])

    def test_every_place_of_all_short_texts(self):
        found = {}
        source = random.Random(201)
        books = all_free_books(3)
        for book in source.sample(books, 60):
            texts = [text for text, places in itertools.islice(all_texts(book, 7), 40)]
            for text in source.sample(texts, min(len(texts), 12)):
                for place in range(len(text) + 1):
                    kind = self.check(book, text, place)
                    found[kind] = found.get(kind, 0) + 1
        self.assertGreater(min(found.get(kind, 0) for kind in KINDS), 20, found)

    def test_every_place_of_drawn_texts(self):
        source = random.Random(202)
        found = {}
        full = 0
        books = free_books_of_many_kinds(source, 60)
        books += [random_free_book(source, 2 ** many, many) for many in (1, 2, 3)]
        for book in books:
            full += sum(2 ** -len(code) for name, code in book) == 1
            text = some_text(source, book, source.randint(0, 40))
            for place in range(len(text) + 1):
                kind = self.check(book, text, place)
                found[kind] = found.get(kind, 0) + 1
        self.assertGreater(full, 15)
        self.assertLess(full, 250)
        self.assertGreater(min(found.get(kind, 0) for kind in KINDS), 100, found)

    def test_refused_as_read_all(self):
        source = random.Random(203)
        refused = 0
        for _ in range(200):
            book = random_free_book(source, source.randint(1, 8), 5)
            text = some_text(source, book, source.randint(1, 30))
            spoilt = source.choice([text[:-1], text + source.choice("01"), text[1:],
                                    "".join(source.choice("01") for _ in range(source.randint(1, 20)))])
            for place in range(len(spoilt) + 1):
                refused += self.check(book, spoilt, place) == "refused"
        self.assertGreater(refused, 300)
        with self.assertRaises(BadText) as caught:
            in_step([("a", "00"), ("b", "01")], "00011", 5)
        self.assertEqual(caught.exception.place, 4)

    def test_long_texts(self):
        source = random.Random(204)
        book = [("a", "0"), ("b", "10"), ("c", "11")]
        text = some_text(source, book, 19990)
        for place in [0, 1, 2, len(text) - 1, len(text)] + source.sample(range(len(text)), 10):
            self.check(book, text, place)
        ones = "11" * 10000
        self.assertIsNone(in_step(book, ones, 1))
        self.assertEqual(in_step(book, ones, 0), 0)
        self.assertEqual(in_step(book, ones + "0", 1), 20001)

    def test_own(self):
        book = [("a", "0"), ("b", "10"), ("c", "11")]
        for text, place in (("111011110", 1), ("1111", 1), ("111", 0), ("", 0)):
            check_own(self, in_step, book[:], text, place)


class LagsTest(unittest.TestCase):
    def test_written_out(self):
        self.assertTrue(same(lags_of([("a", "0"), ("b", "1")]), []))
        self.assertTrue(same(lags_of([("a", "0")]), []))
        self.assertTrue(same(lags_of([("a", "0"), ("b", "10")]), ["0"]))
        self.assertTrue(same(lags_of([("a", "1101"), ("b", "0"), ("c", "100")]), ["0", "1", "00", "01", "101"]))

    def test_beside_all_ends(self):
        source = random.Random(211)
        for book in all_free_books(3) + free_books_of_many_kinds(source, 60) + great_free_books(source, 10):
            lags = lags_of(book)
            self.assertTrue(same(lags, ends_by_hand(book)))
            # Of lags come lags alone.
            codes = [code for name, code in book]
            self.assertTrue(all(later in lags for lag in lags for later in come_of(codes, lag)))

    def test_own(self):
        for book in free_books_of_many_kinds(random.Random(212), 5):
            check_own(self, lags_of, book)


class NeverRingTest(unittest.TestCase):
    def check_ring(self, book, ring):
        """Whether it is such a ring, by the words of the document."""
        self.assertIsInstance(ring, tuple)
        one, other, place = ring
        codes = dict(book)
        for names in (one, other):
            self.assertIsInstance(names, list)
            self.assertTrue(names and all(name in codes for name in names))
        self.assertTrue(place.__class__ is int)
        text, turned = "".join(codes[name] for name in one), "".join(codes[name] for name in other)
        self.assertEqual(len(text), len(turned))
        self.assertTrue(1 <= place < len(text))
        self.assertEqual((text * 3)[place:place + 2 * len(text)], turned * 2)
        begin, one_begins, other_begins = 0, set(), set()
        for name in one:
            one_begins.add(begin)
            begin += len(codes[name])
        begin = place
        for name in other:
            other_begins.add(begin % len(text))
            begin += len(codes[name])
        self.assertEqual(one_begins & other_begins, set(), (book, ring))
        self.assertIs(shows_ring(book, ring), True)
        # So a reading begun there never meets the true one, however long the text is.
        for many in (2, 5):
            self.assertIsNone(in_step(book, text * many, place))

    def check(self, book):
        ring = never_ring(book)
        if SignByPairs(book).goes_on_for_ever():
            self.check_ring(book, ring)
        else:
            self.assertIsNone(ring, book)
        return ring is not None

    def test_written_out(self):
        self.assertIsNone(never_ring([("a", "0")]))
        self.assertIsNone(never_ring([("a", "0"), ("b", "1")]))
        self.assertIsNone(never_ring([("a", "0"), ("b", "10")]))
        self.assertIsNone(never_ring([("a", "01"), ("b", "1"), ("c", "001")]))
        self.check_ring([("a", "00")], never_ring([("a", "00")]))
        self.check_ring([("a", "0"), ("b", "10"), ("c", "11")], never_ring([("a", "0"), ("b", "10"), ("c", "11")]))
        for many in range(2, 13):
            self.check_ring([("a", "0" * many)], never_ring([("a", "0" * many)]))
        self.assertIsNone(never_ring([("a", "01")]))
        self.check_ring([("a", "01"), ("b", "10")], never_ring([("a", "01"), ("b", "10")]))

    def test_all_books_of_short_codes(self):
        rings = [self.check(book) for book in all_free_books(3)]
        self.assertEqual(len(rings), 675)
        self.assertEqual(sum(rings), 632)

    def test_books_of_many_kinds(self):
        source = random.Random(213)
        rings = [self.check(book) for book in free_books_of_many_kinds(source, 120)]
        self.assertGreater(sum(rings), 100)
        self.assertGreater(len(rings) - sum(rings), 100)

    def test_books_of_few_long_codes(self):
        source = random.Random(214)
        rings = [self.check(random_free_book(source, many, 12)) for many in (2, 3, 4, 5) for _ in range(25)]
        # Codes that are one another's turns, so that rings of several names of both come.
        for _ in range(60):
            text = "".join(source.choice("01") for _ in range(source.randint(4, 14)))
            at, other = source.sample(range(1, len(text)), 2)
            turned = text[other:] + text[:other]
            codes = sorted({text[:at], text[at:], turned[:at], turned[at:]} - {""})
            codes = [code for code in codes if len(code) <= 12 and not any(begins(one, code) for one in codes if one != code)]
            rings.append(self.check(list(zip(names_of(len(codes)), codes))))
        self.assertGreater(sum(rings), 20)
        self.assertGreater(len(rings) - sum(rings), 20)

    def test_books_at_the_bounds(self):
        rings = [self.check(book) for book in great_free_books(random.Random(215), 20)]
        self.assertTrue(any(rings) and not all(rings))

    def test_own(self):
        for book in free_books_of_many_kinds(random.Random(216), 10) + [[("a", "00")], [("a", "0")]]:
            check_own(self, never_ring, book)


class RanksTest(unittest.TestCase):
    def test_written_out(self):
        self.assertTrue(same(ranks_of([("a", "0")]), []))
        self.assertTrue(same(ranks_of([("a", "0"), ("b", "1")]), []))
        self.assertTrue(same(ranks_of([("a", "0"), ("b", "10")]), [("0", 1)]))
        # No code begins with 1, and none is alike it.
        self.assertTrue(same(ranks_of([("a", "01")]), [("1", 0)]))
        self.assertTrue(same(ranks_of([("a", "01"), ("b", "1"), ("c", "001")]), [("1", 1), ("01", 1)]))
        self.assertTrue(same(ranks_of([("a", "100"), ("b", "0")]), [("0", 1), ("00", 2)]))
        self.assertTrue(same(ranks_of([("a", "1000"), ("b", "0")]), [("0", 1), ("00", 2), ("000", 3)]))
        self.assertTrue(same(ranks_of([("a", "0111"), ("b", "110")]), [("0", 1), ("1", 1), ("10", 0), ("11", 2), ("111", 0)]))
        self.assertIsNone(ranks_of([("a", "00")]))
        self.assertIsNone(ranks_of([("a", "0"), ("b", "10"), ("c", "11")]))

    def check(self, book):
        ranks = ranks_of(book)
        if SignByPairs(book).goes_on_for_ever():
            self.assertIsNone(ranks, book)
            return None
        codes = [code for name, code in book]
        expected = [(lag, most_codes(codes, lag, "")) for lag in ends_by_hand(book)]
        self.assertTrue(same(ranks, expected), (book, ranks, expected))
        return max([rank for lag, rank in ranks], default=0)

    def test_all_books_of_short_codes(self):
        found = [self.check(book) for book in all_free_books(3)]
        self.assertTrue(all(found.count(rank) > 1 for rank in (None, 0, 1, 2, 3)), found)

    def test_books_of_many_kinds(self):
        source = random.Random(221)
        found = [self.check(book) for book in free_books_of_many_kinds(source, 200)]
        self.assertTrue(all(found.count(rank) > 3 for rank in (None, 0, 1, 2, 3, 4)), found)
        self.assertGreater(max(rank or 0 for rank in found), 5)

    def test_books_at_the_bounds(self):
        found = [self.check(book) for book in great_free_books(random.Random(222), 20)]
        self.assertGreater(len(set(found)), 2)
        for many in range(1, 12):
            self.assertEqual(ranks_of([("a", "1" + "0" * many), ("b", "0")])[-1], ("0" * many, many))
        self.assertEqual(ranks_of([("a", "1" + "0" * 11), ("b", "0")])[:2], [("0", 1), ("00", 2)])

    def test_own(self):
        for book in [[("a", "100"), ("b", "0")], [("a", "00")], [("a", "0")], [("a", "0111"), ("b", "110")]]:
            check_own(self, ranks_of, book)


class GreatestDelayTest(unittest.TestCase):
    def test_written_out(self):
        self.assertTrue(same(greatest_delay([("a", "0")]), 0))
        self.assertTrue(same(greatest_delay([("a", "01")]), 0))
        self.assertTrue(same(greatest_delay([("a", "0"), ("b", "10")]), 1))
        self.assertTrue(same(greatest_delay([("a", "01"), ("b", "1"), ("c", "001")]), 2))
        self.assertTrue(same(greatest_delay([("a", "1" + "0" * 11), ("b", "0")]), 11))
        self.assertIsNone(greatest_delay([("a", "00")]))
        self.assertIsNone(greatest_delay([("a", "0"), ("b", "10"), ("c", "11")]))

    def check(self, book):
        pairs = SignByPairs(book)
        delay = greatest_delay(book)
        expected = None if pairs.goes_on_for_ever() else pairs.greatest()
        self.assertTrue(same(delay, expected), (book, delay, expected))
        return delay

    def test_all_books_of_short_codes(self):
        found = [self.check(book) for book in all_free_books(3)]
        self.assertTrue(all(found.count(delay) > 1 for delay in (None, 0, 1, 2, 3, 4)), found)

    def test_beside_all_short_texts(self):
        source = random.Random(231)
        books = all_free_books(3) + [book for book in free_books_of_many_kinds(source, 200) if max(len(code) for name, code in book) < 7]
        alike = {}
        for book in books:
            delay = greatest_delay(book)
            if delay is None:
                continue
            greatest = greatest_of_all(book, 14)
            self.assertLessEqual(greatest, delay, book)
            # So many signs have room for the code that is begun in, too.
            if delay + max(len(code) for name, code in book) <= 14:
                self.assertEqual(greatest, delay, book)
                alike[delay] = alike.get(delay, 0) + 1
        self.assertTrue(all(alike.get(delay, 0) > 3 for delay in range(5)), alike)

    def test_books_of_many_kinds(self):
        source = random.Random(232)
        found = [self.check(book) for book in free_books_of_many_kinds(source, 200)]
        self.assertTrue(all(found.count(delay) > 3 for delay in (None, 0, 1, 2, 3, 4, 5, 6, 7)), found)

    def test_books_at_the_bounds(self):
        found = [self.check(book) for book in great_free_books(random.Random(233), 20)]
        self.assertGreater(len(set(found)), 1)

    def test_no_delay_of_a_text_is_greater(self):
        source = random.Random(234)
        met = 0
        for book in free_books_of_many_kinds(source, 200):
            delay = greatest_delay(book)
            if delay is not None:
                text = some_text(source, book, 60)
                for place in range(len(text) + 1):
                    told = in_step(book, text, place)
                    if told is not None:
                        self.assertLessEqual(told - place, delay)
                        met += told > place
        self.assertGreater(met, 1000)

    def test_own(self):
        for book in [[("a", "100"), ("b", "0")], [("a", "00")], [("a", "0")]]:
            check_own(self, greatest_delay, book)


if __name__ == "__main__":
    unittest.main()
