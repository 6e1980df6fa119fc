import random
import unittest

from oddlong.books import codes_by
from oddlong.errors import BadText, NoName
from oddlong.texts import bounds_of, read_all, read_from, written
from tests.helper import check_own, names_of, random_book, random_free_book, same

BOOK = [("stop", "0"), ("add", "10"), ("tell", "110"), ("jump", "1111")]


def gone_through(book, text, place):
    """What is read from a place on: names, places of codes, end; every code tried at every place."""
    names, places = [], []
    while True:
        fits = [(name, code) for name, code in book if text[place:].startswith(code)] if place < len(text) else []
        if not fits:
            return names, places, place
        assert len(fits) == 1
        names.append(fits[0][0])
        places.append(place)
        place += len(fits[0][1])


class WrittenTest(unittest.TestCase):
    def test_written(self):
        self.assertTrue(same(written(BOOK, []), ""))
        self.assertTrue(same(written(BOOK, ["jump", "stop", "add", "add", "tell"]), "111101010110"))
        self.assertTrue(same(written([("a", "0"), ("b", "0")], ["b", "a", "b"]), "000"))

    def test_any_book(self):
        source = random.Random(41)
        for _ in range(100):
            book = random_book(source, source.randint(1, 40), 24)
            codes = dict(book)
            names = source.choices(list(codes), k=source.randint(0, 900))
            text = ""
            for name in names:
                text += codes[name]
            self.assertTrue(same(written(book, names), text))

    def test_no_name(self):
        for names, first in ((["x"], "x"), (["stop", "tel"], "tel"), (["stop", "x", "y", "add"], "x"), (["add"] * 99 + ["y", "x"], "y"),
                             (["stop", "stopp"], "stopp"), (["adda", "x"], "adda")):
            with self.assertRaises(NoName) as caught:
                written(BOOK, names)
            self.assertTrue(same(caught.exception.name, first))

    def test_own(self):
        check_own(self, written, BOOK[:], ["add", "stop"])
        check_own(self, written, BOOK[:], ["add", "none", "stop"])


class ReadTest(unittest.TestCase):
    def check(self, book, text):
        names, places, end = gone_through(book, text, 0)
        if end == len(text):
            self.assertTrue(same(read_all(book, text), names))
            self.assertTrue(same(bounds_of(book, text), places + [end]))
            self.assertEqual(written(book, names), text)
        else:
            for ask in (read_all, bounds_of):
                with self.assertRaises(BadText) as caught:
                    ask(book, text)
                self.assertTrue(same(caught.exception.place, end))

    def check_from_all(self, book, text):
        self.check(book, text)
        for place in range(len(text) + 1):
            names, places, end = gone_through(book, text, place)
            self.assertTrue(same(read_from(book, text, place), (names, end)), (book, text, place))

    def test_written(self):
        self.assertTrue(same(read_all(BOOK, ""), []))
        self.assertTrue(same(bounds_of(BOOK, ""), [0]))
        self.assertTrue(same(read_from(BOOK, "", 0), ([], 0)))
        self.assertTrue(same(read_all(BOOK, "1111010"), ["jump", "stop", "add"]))
        self.assertTrue(same(bounds_of(BOOK, "1111010"), [0, 4, 5, 7]))
        self.assertTrue(same(read_from(BOOK, "1111010", 1), ([], 1)))
        self.assertTrue(same(read_from(BOOK, "1111010", 2), (["tell", "add"], 7)))
        self.assertTrue(same(read_from(BOOK, "1111010", 7), ([], 7)))

    def test_bad_texts(self):
        for text, place in (("1", 0), ("01", 1), ("1110", 0), ("10111", 2), ("001110", 2), ("0000111", 4), ("2", 0), ("0 0", 1),
                            ("10\n", 2), ("1x", 0), ("0a10", 1)):
            for ask in (read_all, bounds_of):
                with self.assertRaises(BadText) as caught:
                    ask(BOOK, text)
                self.assertTrue(same(caught.exception.place, place), text)
            self.assertTrue(same(read_from(BOOK, text, 0), (gone_through(BOOK, text, 0)[0], place)))

    def test_books_of_one_name(self):
        for code in ("0", "1", "01", "110", "0" * 24, "01" * 12):
            book = [("only", code)]
            for text in ("", code, code * 3, code[:-1], code * 2 + code[:-1], code + "0", code + "1" + code, "1" + code, "0" + code):
                self.check_from_all(book, text)

    def test_codes_of_24_signs(self):
        book = [("a", "0" * 24), ("b", "0" * 23 + "1"), ("c", "1")]
        for text in ("0" * 48, "0" * 47 + "1", "0" * 49, "0" * 46, "1" * 30 + "0" * 23 + "1" * 3, "10" * 20):
            self.check_from_all(book, text)

    def test_free_books(self):
        source = random.Random(42)
        for _ in range(150):
            book = random_free_book(source, source.randint(1, 40), source.choice([6, 12, 24]))
            names = source.choices([name for name, code in book], k=source.randint(0, 12))
            text = written(book, names)
            self.assertTrue(same(read_all(book, text), names))
            self.check_from_all(book, text)
            if text:
                cut = text[:source.randrange(len(text))]
                self.check_from_all(book, cut)
                at = source.randrange(len(text))
                self.check_from_all(book, text[:at] + source.choice("01") + text[at + 1:])
                self.check_from_all(book, text[:at] + text[at + 1:])
            self.check_from_all(book, "".join(source.choices("01", k=40)))

    def test_long_texts(self):
        source = random.Random(43)
        books = [[("a", "0")], [("a", "0"), ("b", "1")], codes_by(list(zip(names_of(25), list(range(1, 25)) + [24]))),
                 codes_by(list(zip(names_of(40), [24] * 40))), random_free_book(source, 40, 24)]
        for book in books:
            codes = dict(book)
            names = []
            length = 0
            while True:
                name = source.choice(list(codes))
                length += len(codes[name])
                if length > 20000:
                    break
                names.append(name)
            text = written(book, names)
            self.assertTrue(same(read_all(book, text), names))
            bounds = bounds_of(book, text)
            self.assertEqual(len(bounds), len(names) + 1)
            self.assertTrue(all(text[low:high] == codes[name] for name, low, high in zip(names, bounds, bounds[1:])))
            self.assertEqual((bounds[0], bounds[-1]), (0, len(text)))
            for place in (1, 9999, len(text) - 1, len(text)):
                read, end = read_from(book, text, place)
                self.assertEqual(written(book, read), text[place:end])
                self.assertFalse(any(text[end:].startswith(code) for code in codes.values()))

    def test_longer_texts_told_are_read_again(self):
        text = written(BOOK, ["tell", "jump", "stop"] * 20000)
        self.assertEqual(read_all(BOOK, text), ["tell", "jump", "stop"] * 20000)

    def test_own(self):
        for text in ("", "1111010", "11110101"):
            check_own(self, read_all, BOOK[:], text)
            check_own(self, bounds_of, BOOK[:], text)
            for place in range(len(text) + 1):
                check_own(self, read_from, BOOK[:], text, place)


if __name__ == "__main__":
    unittest.main()
