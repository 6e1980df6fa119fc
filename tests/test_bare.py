import random
import unittest

from oddlong.bare import bare_at, bares_of, put_bare
from oddlong.errors import BadText, OddError, TooFar
from tests.helper import SPOTS, Table, all_bares, check_own, distances, even_form, figures, random_form, same, some_bares, written_bare

EVEN = even_form()


class PutTest(unittest.TestCase):
    def test_written_out(self):
        for bare, text in (
                (("set", "a", 0), "0000" + "00" + "0000"), (("set", "b", 1), "0000" + "01" + "0001"),
                (("set", "c", 2), "0000" + "10" + "0010" + "0"), (("set", "c", 3), "0000" + "10" + "0010" + "1"),
                (("set", "d", 255), "0000" + "11" + "1000" + "1111111"), (("set", "d", 128), "0000" + "11" + "1000" + "0000000"),
                (("set", "d", 77), "0000" + "11" + "0111" + "001101"), (("add", "a", "b"), "0001" + "00" + "01"),
                (("add", "c", "c"), "0001" + "10" + "10"), (("take", "d", "a"), "0010" + "11" + "00"), (("tell", "b"), "0011" + "01"),
                (("ask", "c"), "0100" + "10"), (("jump", 0), "0101" + "0000"), (("jump", 7), "0101" + "0111"),
                (("jump", -1), "0101" + "1111"), (("jump", -8), "0101" + "1000"), (("zero", "d", -3), "0110" + "11" + "1101"),
                (("stop",), "0111"), (("farjump", 5), "1000" + "0" * 13 + "101"), (("farjump", -32768), "1000" + "1" + "0" * 15),
                (("farjump", 32767), "1000" + "0" + "1" * 15), (("farzero", "b", -2), "1001" + "01" + "1" * 15 + "0"),
                (("skip", 0), "1010" + "000"), (("skip", 5), "1010" + "101" + "00000"), (("skip", 7), "1010" + "111" + "0000000")):
            self.assertTrue(same(put_bare(EVEN, bare), text), bare)
            self.assertTrue(same(bare_at(EVEN, text, 0), (bare, len(text))), bare)

    def test_all_bare_rows(self):
        source = random.Random(121)
        for _ in range(6):
            form = random_form(source, most_far=9)
            texts = set()
            for bare in all_bares(form):
                text = put_bare(form, bare)
                self.assertTrue(same(text, written_bare(form, bare)), bare)
                self.assertTrue(same(bare_at(form, text, 0), (bare, len(text))), bare)
                texts.add(text)
            self.assertEqual(len(texts), len(all_bares(form)))

    def test_distances_of_every_number_of_figures(self):
        for near in range(2, 9):
            for far in range(near + 1, 17):
                form = even_form(near, far)
                for kind, many in (("jump", near), ("zero", near), ("farjump", far), ("farzero", far)):
                    self.check_distances(form, kind, many)

    def check_distances(self, form, kind, many):
        half = 2 ** (many - 1)
        for distance in (-half, 1 - half, -2, -1, 0, 1, half - 2, half - 1):
            for middle in [()] if kind.endswith("jump") else [("a",), ("d",)]:
                bare = (kind,) + middle + (distance,)
                text = put_bare(form, bare)
                self.assertTrue(same(text, written_bare(form, bare)))
                self.assertTrue(text.endswith(figures(distance if distance >= 0 else distance + 2 * half, many)))
                self.assertTrue(same(bare_at(form, text, 0), (bare, len(text))))
        for distance in (-half - 1, half, -half - 2, half + 1, 2 * half - 1, 2 * half, -2 * half, 10 ** 12, -10 ** 12):
            for middle in [()] if kind.endswith("jump") else [("b",), ("c",)]:
                with self.assertRaises(TooFar) as caught:
                    put_bare(form, (kind,) + middle + (distance,))
                self.assertTrue(same(caught.exception.row, 0))
                self.assertIsInstance(caught.exception, OddError)

    def test_own(self):
        for bare in (("set", "a", 9), ("jump", 7), ("jump", 8), ("farzero", "a", -1), ("skip", 3)):
            check_own(self, put_bare, EVEN, bare)


def cut_and_spoilt(source, text):
    """The text with one sign otherwise, left out or put in, and cut."""
    for at in range(len(text)):
        yield text[:at] + ("1" if text[at] == "0" else "0") + text[at + 1:]
        if source.random() < 0.2:
            yield text[:at] + text[at + 1:]
            yield text[:at] + source.choice("01") + text[at:]
            yield text[:at]
            yield text[at:]


class ReadTest(unittest.TestCase):
    def check(self, form, table, text):
        for place in range(len(text) + 1):
            found = table.read(text, place)
            if found is None:
                with self.assertRaises(BadText) as caught:
                    bare_at(form, text, place)
                self.assertTrue(same(caught.exception.place, place))
            else:
                self.assertTrue(same(bare_at(form, text, place), found))
        self.check_whole(form, table, text)

    def check_whole(self, form, table, text):
        pairs, place = [], 0
        while place < len(text) and table.read(text, place):
            bare, end = table.read(text, place)
            pairs.append((place, bare))
            place = end
        if place == len(text):
            self.assertTrue(same(bares_of(form, text), pairs))
            self.assertEqual("".join(put_bare(form, bare) for at, bare in pairs), text)
        else:
            with self.assertRaises(BadText) as caught:
                bares_of(form, text)
            self.assertTrue(same(caught.exception.place, place))

    def test_the_empty_text(self):
        self.assertTrue(same(bares_of(EVEN, ""), []))
        with self.assertRaises(BadText) as caught:
            bare_at(EVEN, "", 0)
        self.assertTrue(same(caught.exception.place, 0))

    def test_texts_at_every_place(self):
        source = random.Random(122)
        for _ in range(10):
            form = random_form(source, most_far=source.choice([4, 6, 9, 10]))
            table = Table(form)
            for _ in range(4):
                bares = some_bares(source, form, source.randint(1, 5))
                text = "".join(put_bare(form, bare) for bare in bares)
                self.assertEqual([bare for place, bare in bares_of(form, text)], bares)
                self.check(form, table, text)
                for other in cut_and_spoilt(source, text):
                    self.check(form, table, other)
            for many in (1, 7, 40, 90):
                self.check(form, table, "".join(source.choices("01", k=many)))

    def test_each_bare_row_cut_and_with_one_sign_otherwise(self):
        form = even_form(2, 5)
        table = Table(form)
        for bare in all_bares(form):
            text = put_bare(form, bare)
            for at in range(len(text)):
                for other in (text[:at], text[:at] + ("1" if text[at] == "0" else "0") + text[at + 1:]):
                    found = table.read(other, 0)
                    if found is None:
                        with self.assertRaises(BadText) as caught:
                            bare_at(form, other, 0)
                        self.assertTrue(same(caught.exception.place, 0))
                    else:
                        self.assertTrue(same(bare_at(form, other, 0), found))

    def test_skip_rows_pass_over_noughts_alone(self):
        for many in range(8):
            text = put_bare(EVEN, ("skip", many))
            self.assertTrue(same(bare_at(EVEN, text + "1", 0), (("skip", many), 7 + many)))
            for at in range(7, 7 + many):
                spoilt = "0111" + text[:at] + "1" + text[at + 1:] + "0111"
                with self.assertRaises(BadText) as caught:
                    bare_at(EVEN, spoilt, 4)
                self.assertTrue(same(caught.exception.place, 4))
                with self.assertRaises(BadText) as caught:
                    bares_of(EVEN, spoilt)
                self.assertTrue(same(caught.exception.place, 4))

    def test_other_signs_are_no_figures(self):
        for text in ("01010 11", "010101_1", "0101+111", "0101\n011", "1010 11", "10100 0", "0000000011 1", "2", "x", "0011 0"):
            for ahead in ("", "0111", "0111" * 3):
                with self.assertRaises(BadText) as caught:
                    bares_of(EVEN, ahead + text)
                self.assertTrue(same(caught.exception.place, len(ahead)), text)
                with self.assertRaises(BadText) as caught:
                    bare_at(EVEN, ahead + text, len(ahead))
                self.assertTrue(same(caught.exception.place, len(ahead)), text)

    def test_distances_of_far_kinds(self):
        source = random.Random(123)
        form = even_form(8, 16)
        for kind in ("farjump", "farzero"):
            for distance in source.sample(distances(16), 3000):
                bare = (kind,) + ((source.choice(SPOTS),) if kind == "farzero" else ()) + (distance,)
                text = "1" + written_bare(form, bare) + "0"
                self.assertTrue(same(bare_at(form, text, 1), (bare, len(text) - 1)))

    def test_long_texts(self):
        source = random.Random(124)
        for _ in range(6):
            form = random_form(source)
            bares, texts, length = [], [], 0
            for bare in some_bares(source, form, 20000):
                text = written_bare(form, bare)
                if length + len(text) > 20000:
                    break
                bares.append(bare)
                texts.append(text)
                length += len(text)
            places = [0]
            for text in texts:
                places.append(places[-1] + len(text))
            whole = "".join(texts)
            self.assertTrue(same(bares_of(form, whole), list(zip(places, bares))))
            for at in source.sample(range(len(bares)), 30):
                self.assertTrue(same(bare_at(form, whole, places[at]), (bares[at], places[at + 1])))
            with self.assertRaises(BadText) as caught:
                bares_of(form, whole[:-1])
            self.assertIn(caught.exception.place, places[:-1])

    def test_20000_signs_of_the_shortest_rows(self):
        form = even_form()
        for bare in (("stop",), ("skip", 0), ("skip", 1)):
            text = put_bare(form, bare)
            many = 20000 // len(text)
            self.assertTrue(same(bares_of(form, text * many), [(len(text) * at, bare) for at in range(many)]))
            with self.assertRaises(BadText) as caught:
                bares_of(form, text * many + text[:-1])
            self.assertTrue(same(caught.exception.place, len(text) * many))

    def test_own(self):
        text = "".join(put_bare(EVEN, bare) for bare in (("set", "a", 9), ("jump", -8), ("skip", 2), ("stop",)))
        for whole in ("", text, text[:-1], "1" + text):
            check_own(self, bares_of, EVEN, whole)
            for place in range(len(whole) + 1):
                check_own(self, bare_at, EVEN, whole, place)


if __name__ == "__main__":
    unittest.main()
