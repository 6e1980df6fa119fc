import itertools
import random
import unittest

from oddlong.stepcheck import shows_ranks, shows_ring
from oddlong.stepping import never_ring, ranks_of
from tests.helper import (all_free_books, begins, check_own, deep, ends_by_hand, free_books_of_many_kinds, great_free_books, odd_things,
                          random_thing)


def places_of(codes, names, start, signs):
    """Where codes of names begin that are read round and round, of so many signs, from start on."""
    places, begin = set(), start
    for name in names:
        places.add(begin % signs)
        begin += len(codes[name])
    return places


def ring_by_words(book, thing):
    """Whether a thing is such a tuple, by the words of the document."""
    if thing.__class__ is not tuple or len(thing) != 3:
        return False
    one, other, place = thing
    codes = dict(book)
    for names in (one, other):
        if names.__class__ is not list or names == [] or not all(isinstance(name, str) and name in codes for name in names):
            return False
    text, turned = "".join(codes[name] for name in one), "".join(codes[name] for name in other)
    many = len(text)
    if len(turned) != many or place.__class__ is not int or place < 1 or place >= many:
        return False
    if any(turned[at % many] != text[(place + at) % many] for at in range(2 * many)):
        return False
    return not places_of(codes, one, 0, many) & places_of(codes, other, place, many)


def ranks_by_words(book, thing):
    """Whether a thing is such a list, by the words of the document."""
    if thing.__class__ is not list or any(part.__class__ is not tuple or len(part) != 2 for part in thing):
        return False
    for text, number in thing:
        if not isinstance(text, str) or text == "" or any(sign not in "01" for sign in text) or number.__class__ is not int or number < 0:
            return False
    if any(one[0] == other[0] for one, other in itertools.combinations(thing, 2)):
        return False
    numbers = dict(thing)
    if any(end not in numbers for end in ends_by_hand(book)):
        return False
    for text, number in thing:
        for name, code in book:
            if text != code and (begins(text, code) or begins(code, text)):
                rest = max(text, code, key=len)[min(len(text), len(code)):]
                if rest not in numbers or numbers[rest] >= number:
                    return False
    return True


def lists_changed(names, others):
    """A list of names with one thing otherwise, at any place."""
    yield tuple(names)
    yield []
    yield [names]
    yield None
    yield "".join(names)
    yield names[::-1]
    yield names + [None]
    yield names + [""]
    for at, name in enumerate(names):
        yield names[:at] + names[at + 1:]
        yield names[:at + 1] + names[at:]
        for part in list(others) + ["zz", name + " ", name.upper(), "", None, True, 0, [name], (name,), deep(27)]:
            yield names[:at] + [part] + names[at + 1:]
        for other in range(at):
            row = names[:]
            row[at], row[other] = row[other], row[at]
            yield row


def rings_changed(book, ring):
    """The tuple with one thing otherwise, at any place; some of them are right as well."""
    one, other, place = ring
    names = [name for name, code in book]
    many = sum(len(dict(book)[name]) for name in one)
    yield list(ring)
    yield ring + (None,)
    yield ring + (place,)
    yield ring[:2]
    yield (ring,)
    yield [ring]
    yield (place, one, other)
    yield (other, one, place)
    yield (one, one[:], place)
    yield (other, other[:], place)
    for at in list(range(-1, many + 2)) + [place + many, place - many, True, False, None, str(place), [place], (place,), deep(29)]:
        yield (one, other, at)
        yield (other, one, at)
    for row in lists_changed(one, names):
        yield (row, other, place)
    for row in lists_changed(other, names):
        yield (one, row, place)
    yield (one * 2, other, place)
    yield (one, other * 2, place)
    yield (one * 2, other * 2, 2 * place)


def rings_alike(book, ring):
    """Tuples that are right where this one is: exchanged, turned round, read twice or thrice round."""
    one, other, place = ring
    codes = dict(book)
    many = sum(len(codes[name]) for name in one)
    yield ring
    yield (other, one, many - place)
    for at in range(1, len(one)):
        yield (one[at:] + one[:at], other, (place - sum(len(codes[name]) for name in one[:at])) % many)
    for at in range(1, len(other)):
        yield (one, other[at:] + other[:at], (place + sum(len(codes[name]) for name in other[:at])) % many)
    for rounds in (2, 3):
        for more in range(rounds):
            yield (one * rounds, other * rounds, place + more * many)


class ShowsRingTest(unittest.TestCase):
    def check(self, book, thing):
        expected = ring_by_words(book, thing)
        self.assertIs(shows_ring(book, thing), expected, (book, thing))
        return expected

    def test_written_out(self):
        book = [("a", "0"), ("b", "10"), ("c", "11")]
        self.assertIs(shows_ring(book, (["c"], ["c"], 1)), True)
        self.assertIs(shows_ring(book, (["c"], ["c"], True)), False)
        self.assertIs(shows_ring(book, (["c"], ["c"], 0)), False)
        self.assertIs(shows_ring(book, (["c"], ["c"], 2)), False)
        self.assertIs(shows_ring(book, (["c"], ["c"], -1)), False)
        self.assertIs(shows_ring(book, (["c", "c"], ["c", "c"], 1)), True)
        self.assertIs(shows_ring(book, (["c", "c"], ["c", "c"], 2)), False)
        self.assertIs(shows_ring(book, (["c", "c"], ["c", "c"], 3)), True)
        self.assertIs(shows_ring(book, (["c", "c"], ["c"], 1)), False)
        # All their signs are alike, but codes begin at one and the same place.
        self.assertIs(shows_ring(book, (["a", "a"], ["a", "a"], 1)), False)
        self.assertIs(shows_ring(book, (["b"], ["b"], 1)), False)
        self.assertIs(shows_ring(book, (["c", "a"], ["b", "c"], 1)), False)
        self.assertIs(shows_ring([("a", "0"), ("b", "1")], (["a"], ["a"], 0)), False)
        self.assertIs(shows_ring([("a", "01"), ("b", "10")], (["a"], ["b"], 1)), True)
        self.assertIs(shows_ring([("a", "01"), ("b", "10")], (["b"], ["a"], 1)), True)
        self.assertIs(shows_ring([("a", "01"), ("b", "10")], (["a"], ["a"], 1)), False)

    def test_what_is_told_and_what_is_alike(self):
        source = random.Random(241)
        rings = 0
        books = source.sample(all_free_books(3), 60) + free_books_of_many_kinds(source, 40) + great_free_books(source, 6)
        for book in books:
            ring = never_ring(book)
            if ring is not None:
                rings += 1
                for thing in rings_alike(book, ring):
                    self.assertTrue(ring_by_words(book, thing))
                    self.assertIs(shows_ring(book, thing), True, (book, thing))
        self.assertGreater(rings, 80)

    def test_one_thing_otherwise(self):
        source = random.Random(242)
        right = wrong = long = 0
        for book in source.sample(all_free_books(3), 30) + free_books_of_many_kinds(source, 15):
            ring = never_ring(book)
            if ring is None:
                continue
            long += len(ring[0]) + len(ring[1]) > 3
            turned = source.choice(list(rings_alike(book, ring)))
            for thing in itertools.chain(rings_changed(book, ring), rings_changed(book, turned)):
                shown = self.check(book, thing)
                right, wrong = right + shown, wrong + (not shown)
        self.assertGreater(min(right, wrong), 200)
        self.assertGreater(long, 3)

    def test_beside_all_short_readings(self):
        source = random.Random(243)
        right = 0
        for book in source.sample([book for book in all_free_books(3) if len(book) in (2, 3)], 25):
            names = [name for name, code in book]
            rows = [list(row) for many in range(0, 4) for row in itertools.product(names, repeat=many)]
            found = False
            for one, other in itertools.product(rows, rows):
                for place in range(0, 10):
                    shown = self.check(book, (one, other, place))
                    found = found or shown
                    right += shown
            self.assertTrue(not found or never_ring(book) is not None)
        self.assertGreater(right, 100)

    def test_other_books(self):
        source = random.Random(244)
        right = wrong = 0
        for book in source.sample(all_free_books(3), 150):
            ring = never_ring(book)
            if ring is not None:
                for other in source.sample(all_free_books(2), 10) + [book[1:] or book, book[:-1] or book, book[::-1]]:
                    shown = self.check(other, ring)
                    right, wrong = right + shown, wrong + (not shown)
        self.assertGreater(min(right, wrong), 100)

    def test_long_rings(self):
        book = [("a", "0"), ("b", "10"), ("c", "11")]
        self.assertIs(shows_ring(book, (["c"] * 10000, ["c"] * 10000, 9999)), True)
        self.assertIs(shows_ring(book, (["c"] * 10000, ["c"] * 10000, 10000)), False)
        self.assertIs(shows_ring(book, (["c"] * 9999 + ["b"], ["c"] * 10000, 9999)), False)

    def test_wrong_things(self):
        source = random.Random(245)
        for book in ([("q", "0"), ("w", "10"), ("e", "11")], [("a", "00")], [("a", "0")]):
            for thing in odd_things() + [[]]:
                self.assertIs(shows_ring(book, thing), False, thing)
            for _ in range(2000):
                thing = random_thing(source)
                self.check(book, thing)
                self.check(book, (["e"], thing, 1))
                self.check(book, (thing, ["e"], 1))
                self.check(book, (["e"], ["e"], thing))

    def test_own(self):
        book = [("a", "01"), ("b", "10")]
        for thing in ((["a"], ["b"], 1), (["a"], ["b"], 0), (["a"], [], 1), [["a"]], None):
            check_own(self, shows_ring, book[:], thing)


def ranks_changed(book, paper):
    """The paper with one thing otherwise, at any place."""
    yield tuple(paper)
    yield [paper]
    yield paper + [()]
    yield paper + [None]
    yield [list(pair) for pair in paper]
    yield [(rank, lag) for lag, rank in paper]
    for lag in ("0", "1", "01", "110", "0" * 30, "", "2", "0 ", "x", 0, None, True, ["0"], ("0",), deep(27)):
        for rank in (0, 1, 20):
            yield paper + [(lag, rank)]
            yield [(lag, rank)] + paper
    for at, (lag, rank) in enumerate(paper):
        ahead, behind = paper[:at], paper[at + 1:]
        yield ahead + behind
        yield ahead + [paper[at]] + paper[at:]
        yield paper + [(lag, rank + 1)]
        for other in range(at):
            row = paper[:]
            row[at], row[other] = (row[other][0], rank), (lag, row[other][1])
            yield row
        for pair in ((lag, rank + 1), (lag, rank - 1), (lag, rank + 5), (lag, 0), (lag, -1), (lag, -rank), (lag + "0", rank), ("1" + lag, rank),
                     (lag[1:], rank), (lag, True), (lag, False), (lag, None), (lag, str(rank)), (lag, [rank]), (lag, (rank,)), [lag, rank],
                     (lag,), (lag, rank, 0), (), lag, None, True, rank, ([lag], rank), (rank, lag), (lag, deep(27)), (deep(27), rank)):
            yield ahead + [pair] + behind


class ShowsRanksTest(unittest.TestCase):
    def check(self, book, thing):
        expected = ranks_by_words(book, thing)
        self.assertIs(shows_ranks(book, thing), expected, (book, thing))
        return expected

    def test_written_out(self):
        book = [("a", "100"), ("b", "0")]
        self.assertIs(shows_ranks(book, [("0", 1), ("00", 2)]), True)
        self.assertIs(shows_ranks(book, [("00", 2), ("0", 1)]), True)
        self.assertIs(shows_ranks(book, [("0", 0), ("00", 1)]), True)
        self.assertIs(shows_ranks(book, [("0", 5), ("00", 10 ** 30)]), True)
        self.assertIs(shows_ranks(book, [("0", 1), ("00", 1)]), False)
        self.assertIs(shows_ranks(book, [("0", 2), ("00", 1)]), False)
        self.assertIs(shows_ranks(book, [("0", True), ("00", 2)]), False)
        self.assertIs(shows_ranks(book, [("0", False), ("00", 2)]), False)
        self.assertIs(shows_ranks(book, [("0", 1)]), False)
        self.assertIs(shows_ranks(book, [("00", 2)]), False)
        self.assertIs(shows_ranks(book, [("0", 1), ("00", 2), ("0", 1)]), False)
        self.assertIs(shows_ranks(book, [("0", 1), ("00", 2), ("11", 0)]), True)
        self.assertIs(shows_ranks(book, [("0", 1), ("00", 2), ("000", 3)]), True)
        self.assertIs(shows_ranks(book, [("0", 1), ("00", 2), ("000", 2)]), False)
        self.assertIs(shows_ranks(book, [("0", 1), ("00", 2), ("0000", 3)]), False)
        self.assertIs(shows_ranks(book, [("0", 1), ("00", 2), ("100", 0)]), True)
        self.assertIs(shows_ranks(book, [("0", 1), ("00", 2), ("10", 1)]), False)
        self.assertIs(shows_ranks(book, [("0", 1), ("00", 2), ("10", 2)]), True)
        self.assertIs(shows_ranks([("a", "0"), ("b", "1")], []), True)
        self.assertIs(shows_ranks([("a", "0"), ("b", "1")], [("0", 0)]), True)
        self.assertIs(shows_ranks([("a", "00")], []), False)
        self.assertIs(shows_ranks([("a", "00")], [("0", 1)]), False)
        self.assertIs(shows_ranks([("a", "01")], [("1", 0)]), True)

    def papers(self, source, rounds):
        books = all_free_books(3) + free_books_of_many_kinds(source, rounds) + great_free_books(source, 10)
        papers = [(book, ranks_of(book)) for book in books]
        papers = [(book, paper) for book, paper in papers if paper is not None]
        self.assertGreater(len(papers), 60)
        return papers

    def test_what_is_told_in_any_order_and_greater(self):
        source = random.Random(251)
        for book, paper in self.papers(source, 60):
            self.assertIs(shows_ranks(book, paper), True)
            self.assertIs(shows_ranks(book, source.sample(paper, len(paper))), True)
            self.assertIs(shows_ranks(book, paper[::-1]), True)
            self.assertIs(shows_ranks(book, [(lag, 3 * rank + 7) for lag, rank in paper]), True)
            self.assertIs(shows_ranks(book, [(lag, 10 ** 20 + rank) for lag, rank in paper]), True)
            for least in range(3):
                self.check(book, [(lag, max(rank, least)) for lag, rank in paper])
                self.check(book, [(lag, max(rank - least, 0)) for lag, rank in paper])
            self.check(book, [(lag, min(rank, 2)) for lag, rank in paper])
            self.check(book, [(lag, source.randint(0, 4)) for lag, rank in paper])

    def test_one_thing_otherwise(self):
        source = random.Random(252)
        right = wrong = 0
        for book, paper in self.papers(source, 30):
            if len(paper) < 25:
                for thing in ranks_changed(book, source.sample(paper, len(paper))):
                    shown = self.check(book, thing)
                    right, wrong = right + shown, wrong + (not shown)
        self.assertGreater(min(right, wrong), 300)

    def test_other_books_and_books_with_a_ring(self):
        source = random.Random(253)
        books = all_free_books(3)
        right = wrong = 0
        for book, paper in self.papers(source, 20):
            for other in source.sample(books, 15) + [book[1:] or book, book[:-1] or book, book[::-1], book + [("zz", "1" * 13)]]:
                shown = self.check(other, paper)
                right, wrong = right + shown, wrong + (not shown)
        self.assertGreater(min(right, wrong), 100)
        for book in source.sample(books, 100):
            if never_ring(book) is not None:
                ends = ends_by_hand(book)
                for _ in range(10):
                    self.assertIs(shows_ranks(book, [(end, source.randint(0, 9)) for end in ends]), False)
                self.assertIs(shows_ranks(book, [(end, len(end)) for end in ends]), False)
                self.assertIs(shows_ranks(book, [(end, 20 - len(end)) for end in ends]), False)

    def test_long_papers(self):
        book = [("a", "100"), ("b", "0")]
        paper = [("0" * many, many) for many in range(1, 300)]
        self.assertIs(shows_ranks(book, paper), True)
        self.assertIs(shows_ranks(book, paper[:150] + paper[151:]), False)
        self.assertIs(shows_ranks(book, paper + [("1" + "0" * 20000, 3)]), False)
        self.assertIs(shows_ranks(book, paper + [("11" + "0" * 20000, 3)]), True)

    def test_wrong_things(self):
        source = random.Random(254)
        for book in ([("a", "100"), ("b", "0")], [("a", "00")], [("a", "01")]):
            for thing in odd_things() + [[], (("1", 0),), [["1", 0]], ["10"]]:
                self.assertIs(shows_ranks(book, thing), False, thing)
            for _ in range(2000):
                thing = random_thing(source)
                for paper in (thing, [thing], [("0", 1), thing], [("0", 1), ("00", thing)], [(thing, 1), ("00", 2)], [("1", 0), thing]):
                    self.check(book, paper)
        for thing in odd_things():
            self.assertIs(shows_ranks([("a", "0")], thing), False, thing)

    def test_own(self):
        book = [("a", "100"), ("b", "0")]
        for thing in ([("0", 1), ("00", 2)], [("0", 1)], [["0", 1]], [], None):
            check_own(self, shows_ranks, book[:], thing)


if __name__ == "__main__":
    unittest.main()
