import itertools
import random
import unittest
from fractions import Fraction

from oddlong.books import clash, codes_by, free, halves, is_book
from oddlong.errors import OddError, TooFull
from tests.helper import (all_codes, begins, check_own, deep, names_of, odd_things, random_book, random_free_book,
                          same)


def clashes(book):
    """All clashes, by the place of the one behind, then of the one ahead."""
    found = []
    for j in range(len(book)):
        for i in range(j):
            if begins(book[i][1], book[j][1]) or begins(book[j][1], book[i][1]):
                found.append((book[i][0], book[j][0]))
    return found


def all_of_length(length):
    """All codes of a length, by rising number."""
    return ["".join(signs) for signs in itertools.product("01", repeat=length)]


def codes_gone_through(lengths):
    """The book of [4] by its words, all codes of each length tried; None where one has no room."""
    codes = {}
    for length, at in sorted((length, at) for at, (name, length) in enumerate(lengths)):
        fits = [code for code in all_of_length(length) if not any(begins(ahead, code) for ahead in codes.values())]
        if not fits:
            return None
        codes[at] = fits[0]
    return [(name, codes[at]) for at, (name, length) in enumerate(lengths)]


def has_room(lengths):
    return sum(Fraction(1, 2 ** length) for name, length in lengths) <= 1


class IsBookTest(unittest.TestCase):
    def test_books(self):
        source = random.Random(31)
        books = [[("a", "0")], [("abcdefgh", "1")], [("zzzzzzzz", "0"), ("z", "0")], [("a", "0" * 5000)],
                 [("x", "01" * 12), ("y", "01"), ("aa", "01"), ("a", "1")], [("a", "10"), ("b", "1"), ("c", "0")]]
        books += [random_book(source, many, 24) for many in range(1, 41)]
        books.append([("".join(letters), "0") for letters in itertools.product("abcdefghijklmnopqrstuvwxyz", repeat=2)])
        for book in books:
            self.assertIs(is_book(book), True, book)

    def test_odd_things(self):
        for thing in odd_things() + [[]]:
            self.assertIs(is_book(thing), False, thing)
            if thing != ("a", "0"):
                self.assertIs(is_book([("q", "1"), thing]), False, thing)
                self.assertIs(is_book([thing, ("q", "1")]), False, thing)

    def test_a_tuple_for_the_list_and_a_list_for_a_pair(self):
        self.assertIs(is_book((("a", "0"), ("b", "1"))), False)
        self.assertIs(is_book([("a", "0"), ["b", "1"]]), False)
        self.assertIs(is_book([["a", "0"], ("b", "1")]), False)

    def test_pairs_of_another_number_of_parts(self):
        for part in ((), ("b",), ("b", "1", "0"), ("b", "1", None), ("b", "1", "1", "1")):
            self.assertIs(is_book([("a", "0"), part]), False, part)

    def test_names(self):
        for name in ("", "abcdefghi", "A", "aB", "Ab", "aBc", "a1", "1", "a b", " a", "a ", "a\n", "\na", "a\na", "\n", "_",
                     "a_", "`", "{", "a.b", "~", "Z", "@a", "a[", 0, 1, None, True, False, ("a",), ["a"], deep(28)):
            self.assertIs(is_book([(name, "0")]), False, name)
            self.assertIs(is_book([("q", "1"), (name, "0"), ("w", "1")]), False, name)

    def test_codes(self):
        for code in ("", "2", "02", "20", "0 ", " 0", "0 1", "0\n", "\n0", "a", "0a1", "O", "l", "-0", "0.1", "/", "1/0", 0, 1,
                     10, True, False, None, ("0",), ["0"], ["0", "1"], deep(28)):
            self.assertIs(is_book([("a", code)]), False, code)
            self.assertIs(is_book([("q", "1"), ("a", code), ("w", "1")]), False, code)

    def test_a_name_told_twice(self):
        self.assertIs(is_book([("a", "0"), ("a", "1")]), False)
        self.assertIs(is_book([("a", "0"), ("a", "0")]), False)
        self.assertIs(is_book([("a", "0"), ("b", "10"), ("c", "11"), ("b", "0")]), False)
        self.assertIs(is_book([("a", "0"), ("b", "0"), ("c", "0")]), True)


class FreeTest(unittest.TestCase):
    def check(self, book):
        found = clashes(book)
        self.assertIs(free(book), not found, book)
        answer = clash(book)
        self.assertTrue(same(answer, found[0] if found else None), (book, answer, found))

    def test_one_code(self):
        for code in all_codes(3):
            self.check([("a", code)])

    def test_all_books_of_two_and_three_short_codes(self):
        for codes in itertools.product(all_codes(3), repeat=2):
            self.check(list(zip(["b", "a"], codes)))
        for codes in itertools.product(all_codes(3), repeat=3):
            self.check(list(zip(["b", "c", "a"], codes)))

    def test_the_first_by_the_one_behind_then_by_the_one_ahead(self):
        self.assertEqual(clash([("a", "0"), ("b", "1"), ("c", "11"), ("d", "00")]), ("b", "c"))
        self.assertEqual(clash([("a", "00"), ("b", "01"), ("c", "0")]), ("a", "c"))
        self.assertEqual(clash([("z", "10"), ("y", "0"), ("x", "10"), ("w", "0")]), ("z", "x"))
        self.assertEqual(clash([("a", "0"), ("b", "10")]), None)

    def test_random_books(self):
        source = random.Random(32)
        for _ in range(300):
            self.check(random_book(source, source.randint(1, 40), source.choice([2, 6, 12, 24])))
            self.check(random_free_book(source, source.randint(1, 40), source.choice([6, 12, 24])))

    def test_one_code_of_a_free_book_made_otherwise(self):
        source = random.Random(33)
        for _ in range(200):
            book = random_free_book(source, source.randint(2, 40), 12)
            one, other = source.sample(range(len(book)), 2)
            code = book[other][1]
            book[one] = (book[one][0], source.choice([code, code + "1", code[:source.randint(1, len(code))]]))
            self.assertIs(free(book), False)
            self.check(book)

    def test_own(self):
        for book in ([("a", "0"), ("b", "10")], [("a", "0"), ("b", "0")]):
            check_own(self, is_book, book[:])
            check_own(self, free, book[:])
            check_own(self, clash, book[:])
            check_own(self, halves, book[:])


class HalvesTest(unittest.TestCase):
    def check(self, book):
        answer = halves(book)
        whole = 2 ** max(len(code) for name, code in book)
        many = sum(Fraction(whole, 2 ** len(code)) for name, code in book)
        self.assertEqual(many.denominator, 1)
        self.assertTrue(same(answer, (int(many), whole)), (book, answer))
        return answer

    def test_written(self):
        self.assertTrue(same(halves([("a", "0")]), (1, 2)))
        self.assertTrue(same(halves([("a", "0"), ("b", "10"), ("c", "110")]), (7, 8)))
        self.assertTrue(same(halves([("a", "1"), ("b", "1"), ("c", "0")]), (3, 2)))
        self.assertTrue(same(halves([("a", "0" * 24), ("b", "1")]), (2 ** 23 + 1, 2 ** 24)))

    def test_codes_of_one_length(self):
        for length in range(1, 25):
            for many in (1, 2, 39, 40):
                self.check([(name, ("01" * 12)[:length]) for name in names_of(many)])

    def test_codes_of_many_lengths(self):
        source = random.Random(34)
        for _ in range(200):
            self.check(random_book(source, source.randint(1, 40), 24))
            many, whole = self.check(random_free_book(source, source.randint(1, 40), 24))
            self.assertLessEqual(many, whole)


class CodesByTest(unittest.TestCase):
    def check(self, lengths):
        if not has_room(lengths):
            with self.assertRaises(TooFull) as caught:
                codes_by(lengths)
            self.assertIsInstance(caught.exception, OddError)
            return None
        book = codes_by(lengths)
        self.assertTrue(is_book(book) and free(book), book)
        self.assertEqual([(name, len(code)) for name, code in book], lengths)
        return book

    def test_written(self):
        self.assertTrue(same(codes_by([("a", 1)]), [("a", "0")]))
        self.assertTrue(same(codes_by([("a", 3), ("b", 1), ("c", 3), ("d", 2)]),
                             [("a", "110"), ("b", "0"), ("c", "111"), ("d", "10")]))
        self.assertTrue(same(codes_by([("z", 24)]), [("z", "0" * 24)]))
        self.assertTrue(same(codes_by([("b", 2), ("a", 2)]), [("b", "00"), ("a", "01")]))

    def test_all_short_rows_of_lengths(self):
        for many in range(1, 6):
            for row in itertools.product(range(1, 5), repeat=many):
                lengths = list(zip(names_of(many), row))
                book = self.check(lengths)
                if book is None:
                    self.assertIsNone(codes_gone_through(lengths), lengths)
                else:
                    self.assertTrue(same(book, codes_gone_through(lengths)), lengths)

    def test_lengths_of_free_books_out_of_order(self):
        source = random.Random(35)
        for _ in range(100):
            lengths = [(name, len(code)) for name, code in random_free_book(source, source.randint(1, 40), 9)]
            self.assertTrue(same(self.check(lengths), codes_gone_through(lengths)))
        for _ in range(100):
            self.check([(name, len(code)) for name, code in random_free_book(source, source.randint(1, 40), 24)])

    def test_just_full_and_one_more(self):
        source = random.Random(36)
        rows = [list(range(1, 24)) + [23], list(range(1, 25)) + [24], [5] * 32, [1, 1], [6] * 16 + [5] * 24, [4] * 16]
        for row in rows:
            for _ in range(6):
                lengths = list(zip(names_of(len(row)), row))
                source.shuffle(lengths)
                book = self.check(lengths)
                self.assertEqual(*halves(book))
                for more in (1, 24, row[0]):
                    place = source.randint(0, len(row))
                    with self.assertRaises(TooFull):
                        codes_by(lengths[:place] + [("more", more)] + lengths[place:])
                place = source.randrange(len(row))
                name, length = lengths[place]
                if length > 1:
                    with self.assertRaises(TooFull):
                        codes_by(lengths[:place] + [(name, length - 1)] + lengths[place + 1:])

    def test_own(self):
        check_own(self, codes_by, [("a", 3), ("b", 1), ("c", 2)])
        check_own(self, codes_by, [("a", 1), ("b", 1), ("c", 2)])


if __name__ == "__main__":
    unittest.main()
