import copy
import itertools
import random
import unittest

from oddlong.books import free
from oddlong.readcheck import shows_one, shows_two
from oddlong.readings import rests_of, two_readings
from oddlong.texts import written
from tests.helper import all_codes, begins, check_own, deep, names_of, odd_things, random_book, random_free_book, same


# Codes of which the least text with two readings has so many signs.
LONG = [
    (55, ["10111110", "01101", "00", "1110010101", "11", "0101011111", "11000000010"]),
    (54, ["010", "10000", "000001000011", "110000100001", "0110110", "00", "1001001111"]),
    (51, ["10000000000", "00", "000001110110", "10100110", "0101001101", "1100011", "0001110"]),
    (50, ["111001111111", "001111111101", "1", "011100", "0111110001", "110111101110"]),
]


def readings_of(book, text):
    """How many lists of names are written as a text."""
    many = [1] + [0] * len(text)
    for end in range(1, len(text) + 1):
        many[end] = sum(many[end - len(code)] for name, code in book if text[:end].endswith(code) and len(code) <= end)
    return many[-1]


def least_of_all(book, longest):
    """The first of all texts of at most longest signs that has two readings, all of them gone through."""
    for length in range(1, longest + 1):
        for signs in itertools.product("01", repeat=length):
            if readings_of(book, "".join(signs)) > 1:
                return "".join(signs)
    return None


def least_by_signs(book):
    """The same text, of whatever length: both readings are gone through sign by sign, side by side."""
    codes = [code for name, code in book]
    level = {}
    for one, other in itertools.combinations(codes, 2):
        level[tuple(sorted((one, other)))] = ""
    seen = set(level)
    while level:
        later = {}
        for (one, other), text in level.items():
            if one[0] != other[0]:
                continue
            text += one[0]
            for left in [one[1:]] if one[1:] else [""] + codes:
                for right in [other[1:]] if other[1:] else [""] + codes:
                    # Where one reading only has ended there is no text yet: both must end, or both go on.
                    if (left == "") == (right == ""):
                        state = tuple(sorted((left, right)))
                        later[state] = min(text, later.get(state, text))
        if ("", "") in later:
            return later[("", "")]
        level = {state: text for state, text in later.items() if state not in seen}
        seen.update(level)
    return None


def rests_gone_through(book):
    """All rests: passes over all codes till nothing comes."""
    codes = [code for name, code in book]
    found = set()
    pairs = list(itertools.combinations(codes, 2))
    while True:
        new = set()
        for one, other in pairs:
            if begins(one, other):
                new.add(other[len(one):])
            if begins(other, one):
                new.add(one[len(other):])
        if new <= found:
            return sorted(found, key=lambda rest: (len(rest), rest))
        found |= new
        pairs = [(rest, code) for rest in found if rest for code in codes]


def turned(book):
    """The codes turned about: of a free book none ends another, so each text is read one way."""
    return [(name, code[::-1]) for name, code in book]


def books_of_many_kinds(source, rounds):
    """Books to 12 pairs and 12 signs."""
    books = []
    for _ in range(rounds):
        many = source.randint(1, 12)
        longest = source.choice([2, 3, 5, 8, 12])
        book = random_free_book(source, many, 12)
        books += [random_book(source, many, longest), book, turned(book)]
        if many > 2:
            at, one, other = source.sample(range(many), 3)
            doubled = turned(book)
            doubled[at] = (doubled[at][0], (doubled[one][1] + doubled[other][1])[:12])
            books.append(doubled)
            alike = book[:]
            alike[at] = (alike[at][0], alike[one][1])
            books.append(alike)
        books.append([(name, "0" * source.randint(1, 12)) for name in names_of(source.randint(1, 12))])
    return books


class TwoReadingsTest(unittest.TestCase):
    def check(self, book, least):
        answer = two_readings(book)
        if least is None:
            self.assertIsNone(answer, book)
            return
        self.assertIsInstance(answer, tuple)
        text, one, other = answer
        self.assertEqual(text, least, book)
        self.assertIsInstance(one, list)
        self.assertIsInstance(other, list)
        self.assertEqual((written(book, one), written(book, other)), (text, text))
        names = [name for name, code in book]
        self.assertLess(names.index(one[0]), names.index(other[0]), book)
        self.assertIs(shows_two(book, answer), True)

    def test_written(self):
        self.assertTrue(same(two_readings([("b", "0"), ("a", "0")]), ("0", ["b"], ["a"])))
        self.assertTrue(same(two_readings([("a", "01"), ("b", "0"), ("c", "1")]), ("01", ["a"], ["b", "c"])))
        self.assertTrue(same(two_readings([("c", "1"), ("b", "0"), ("a", "01")]), ("01", ["b", "c"], ["a"])))
        self.assertTrue(same(two_readings([("a", "00"), ("b", "000")]), ("00000", ["a", "b"], ["b", "a"])))
        self.assertIsNone(two_readings([("a", "0")]))
        self.assertIsNone(two_readings([("a", "0"), ("b", "01"), ("c", "11")]))

    def test_all_books_of_short_codes(self):
        for many in (1, 2, 3):
            for codes in itertools.product(all_codes(3), repeat=many):
                book = list(zip(names_of(many), codes))
                least = least_by_signs(book)
                self.check(book, least)
                self.assertEqual(least is None, "" not in rests_of(book))

    def test_beside_all_short_texts(self):
        source = random.Random(61)
        for book in [random_book(source, many, 4) for many in (2, 3, 3, 4, 4, 5) for _ in range(15)]:
            text = least_of_all(book, 10)
            answer = two_readings(book)
            if text is not None:
                self.check(book, text)
            else:
                self.assertTrue(answer is None or len(answer[0]) > 10, book)

    def test_several_of_least_length(self):
        for book, text in (([("a", "1"), ("b", "0"), ("c", "11"), ("d", "00")], "00"),
                           ([("a", "1"), ("b", "10"), ("c", "0"), ("d", "01")], "01"),
                           ([("a", "1"), ("b", "1"), ("c", "0"), ("d", "0")], "0")):
            self.assertEqual(least_of_all(book, 4), text)
            self.check(book, text)

    def test_books_of_many_kinds(self):
        for book in books_of_many_kinds(random.Random(62), 60):
            self.check(book, least_by_signs(book))

    def test_free_books_and_their_codes_turned_about(self):
        source = random.Random(63)
        for _ in range(100):
            book = random_free_book(source, source.randint(1, 12), 12)
            self.assertTrue(free(book))
            self.assertIsNone(two_readings(book))
            self.assertIsNone(two_readings(turned(book)))

    def test_long_least_texts(self):
        for many in range(2, 12):
            book = [("a", "0" * many), ("b", "0" * (many + 1))]
            self.check(book, "0" * (2 * many + 1))
        for many in range(1, 6):
            # One reading is ahead by noughts that grow in number till they fill a code.
            book = [("a", "1"), ("b", "1" + "0" * many), ("c", "0" * 11), ("d", "0" * 7 + "1"), ("e", "0" * 12)]
            self.check(book, least_by_signs(book))
        for length, codes in LONG:
            book = list(zip(names_of(len(codes)), codes))
            least = least_by_signs(book)
            self.assertEqual(len(least), length)
            self.check(book, least)
            self.check(book[::-1], least)

    def test_own(self):
        for book in books_of_many_kinds(random.Random(64), 5):
            check_own(self, two_readings, book)


class RestsTest(unittest.TestCase):
    def test_written(self):
        self.assertTrue(same(rests_of([("a", "0")]), []))
        self.assertTrue(same(rests_of([("a", "0"), ("b", "10")]), []))
        self.assertTrue(same(rests_of([("a", "0"), ("b", "0")]), [""]))
        self.assertTrue(same(rests_of([("a", "0"), ("b", "01"), ("c", "11")]), ["1"]))
        self.assertTrue(same(rests_of([("a", "00"), ("b", "000")]), ["", "0", "00"]))
        self.assertTrue(same(rests_of([("a", "1"), ("b", "10"), ("c", "101")]), ["", "0", "1", "01"]))

    def test_books_of_many_kinds(self):
        for book in books_of_many_kinds(random.Random(65), 60):
            rests = rests_of(book)
            self.assertTrue(same(rests, rests_gone_through(book)), book)
            self.assertEqual("" in rests, two_readings(book) is not None)

    def test_own(self):
        for book in books_of_many_kinds(random.Random(66), 5):
            check_own(self, rests_of, book)


class ShowsOneTest(unittest.TestCase):
    def test_right_papers_in_any_order_some_twice(self):
        source = random.Random(67)
        shown = 0
        for book in books_of_many_kinds(source, 60):
            paper = rests_of(book)
            self.assertIs(shows_one(book, paper), "" not in paper, book)
            if "" in paper:
                self.assertIs(shows_one(book, [rest for rest in paper if rest]), False)
                continue
            shown += len(paper) > 1
            twice = paper + paper[:3]
            source.shuffle(twice)
            self.assertIs(shows_one(book, twice), True)
        self.assertGreater(shown, 20)

    def test_a_rest_left_out(self):
        for book in books_of_many_kinds(random.Random(68), 40):
            paper = rests_of(book)
            if "" not in paper:
                for at in range(len(paper)):
                    self.assertIs(shows_one(book, paper[:at] + paper[at + 1:]), False, book)

    def test_more_texts_than_rests(self):
        book = [("a", "0"), ("b", "01"), ("c", "11")]
        self.assertIs(shows_one(book, ["1"]), True)
        self.assertIs(shows_one(book, ["1", "10"]), True)
        self.assertIs(shows_one(book, ["101", "1"]), True)
        self.assertIs(shows_one(book, ["1", "0"]), False)
        self.assertIs(shows_one(book, ["1", "111"]), True)
        self.assertIs(shows_one(book, ["1", "110"]), False)
        self.assertIs(shows_one(book, ["1", "1110"]), False)
        self.assertIs(shows_one(book, ["1", "1110", "10"]), True)
        many = ["1" * length for length in range(1, 2000, 2)]
        self.assertIs(shows_one([("a", "11"), ("b", "00")], many), True)
        self.assertIs(shows_one([("a", "11"), ("b", "00")], many[:500] + many[501:]), False)

    def test_free_books_and_long_papers(self):
        self.assertIs(shows_one([("a", "0")], []), True)
        self.assertIs(shows_one([("a", "0"), ("b", "11")], []), True)
        self.assertIs(shows_one([("a", "0"), ("b", "11")], ["10"]), True)
        self.assertIs(shows_one([("a", "0"), ("b", "11")], ["1"]), True)
        self.assertIs(shows_one([("a", "0"), ("b", "11")], ["1"] + ["1" + "0" * 20000] * 3), True)
        self.assertIs(shows_one([("a", "0"), ("b", "00")], []), False)
        self.assertIs(shows_one([("a", "0"), ("b", "0")], []), False)

    def test_wrong_parts(self):
        book = [("a", "0"), ("b", "01"), ("c", "11")]
        for part in ["", "2", "1 ", "1\n", "x", "1x", 0, 1, 11, True, False, None, (), [], ["1"], ("1",), deep(29), [deep(28)]]:
            for paper in (["1", part], [part, "1"], [part], ["1", "10", part, "1"]):
                self.assertIs(shows_one(book, paper), False, paper)

    def test_wrong_things(self):
        for book in ([("a", "0"), ("b", "01"), ("c", "11")], [("a", "0"), ("b", "11")], [("a", "0")]):
            for thing in odd_things() + [("1",), "1", (["1"],), (["1"], ["1"])]:
                self.assertIs(shows_one(book, thing), False, thing)

    def test_own(self):
        book = [("a", "0"), ("b", "01"), ("c", "11")]
        for thing in (["1"], ["1", "10", "1"], [], ["", "1"], [["1"]], None):
            check_own(self, shows_one, book[:], copy.deepcopy(thing))


class ShowsTwoTest(unittest.TestCase):
    BOOK = [("a", "01"), ("b", "0"), ("c", "1"), ("d", "01")]

    def test_right_papers(self):
        for thing in (("01", ["a"], ["b", "c"]), ("01", ["b", "c"], ["a"]), ("01", ["a"], ["d"]), ("001", ["b", "a"], ["b", "d"]),
                      ("0101", ["a", "a"], ["a", "d"]), ("0" * 300 + "01", ["b"] * 300 + ["a"], ["b"] * 301 + ["c"]),
                      ("01" * 20000, ["a"] * 20000, ["b", "c"] * 20000)):
            self.assertIs(shows_two(self.BOOK, thing), True)

    def test_right_papers_made_longer(self):
        for book in books_of_many_kinds(random.Random(69), 20):
            answer = two_readings(book)
            if answer is None:
                continue
            text, one, other = answer
            name, code = book[-1]
            self.assertIs(shows_two(book, (text + code, one + [name], other + [name])), True)
            self.assertIs(shows_two(book, (code + text, [name] + other, [name] + one)), True)
            self.assertIs(shows_two(book, (text + text, one + other, one + one)), True)
            self.assertIs(shows_two(book, (text + text, one + other, one + other)), False)
            self.assertIs(shows_two(book, (text, one, one[:])), False)
            self.assertIs(shows_two(book, (text, one, other + [name])), False)
            self.assertIs(shows_two(book, (text + "0", one, other)), False)
            self.assertIs(shows_two(book, (text[:-1], one, other)), False)

    def test_wrong_papers(self):
        one, other = ["a"], ["b", "c"]
        for thing in (["01", one, other], ("01", one), ("01", one, other, one), ("01", one, other, None), (one, other, "01"),
                      ("01", one, one), ("01", one, ["a"]), ("01", other, ["b", "c"]), ("01", ("a",), other), ("01", one, ("b", "c")),
                      ("01", one, "bc"), ("01", "a", other), ("01", "a", "d"), ("01", one, None), ("01", None, other), ("01", one, True),
                      ("01", one, 1), ("01", one, []), ("01", [], other), ("", [], []), ("", one, other), ("10", one, other),
                      ("011", one, other), ("0", one, other), ("1", one, other), ("01", one, ["c", "b"]), ("01", one, ["b"]),
                      ("01", one, ["e"]), ("01", ["e"], other), ("01", ["01"], other), ("01", one, ["0", "1"]), ("01", one, ["", "b", "c"]),
                      ("01", one, ["b", "c", "e"]), ("01", one, [["b"], ["c"]]), ("01", one, [("b",), "c"]), ("01", one, ["b", 1]),
                      ("01", [True], other), ("01", [None], other), ("01", one, [("b", "c")]), ("01", one, [other]), (1, one, other),
                      (True, one, other), (None, one, other), (["0", "1"], one, other), (("01",), one, other), ("01\n", one, other),
                      ("01", one, ["b", "c "]), ("01", one, ["B", "c"]), ("01", deep(29), other), ("01", one, [deep(28)]),
                      (deep(29), one, other), (("01", one, other),), [("01", one, other)], (None, None, True), (None, ["e"], ["f"]),
                      (None, "a", "d"), (None, [], None)):
            self.assertIs(shows_two(self.BOOK, thing), False, thing)

    def test_wrong_things(self):
        for thing in odd_things() + [[]]:
            self.assertIs(shows_two(self.BOOK, thing), False, thing)
            self.assertIs(shows_two([("a", "0")], thing), False, thing)

    def test_books_of_which_no_text_has_two(self):
        self.assertIs(shows_two([("a", "0"), ("b", "1")], ("01", ["a", "b"], ["a", "b"])), False)
        self.assertIs(shows_two([("a", "0"), ("b", "1")], ("01", ["a", "b"], ["b", "a"])), False)

    def test_own(self):
        for thing in (("01", ["a"], ["b", "c"]), ("01", ["a"], ["a"]), ("01", ["a"], ["e"]), [["a"]], None):
            check_own(self, shows_two, self.BOOK[:], copy.deepcopy(thing))


if __name__ == "__main__":
    unittest.main()
