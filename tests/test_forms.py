import itertools
import random
import unittest

from oddlong.books import free
from oddlong.errors import NoForm, OddError
from oddlong.forms import Form
from tests.helper import KINDS, SIZES, SPOTS, check_own, deep, even_form, odd_things, random_pairs, same

EVEN = even_form()
NAMES = {"kinds": KINDS, "spots": SPOTS, "sizes": SIZES}
ORDER = ["kinds", "spots", "sizes", "near", "far"]


def right(source, longest=12):
    """What makes a form: far is so great that every far jump has more signs."""
    return [random_pairs(source, NAMES[which], longest) for which in ORDER[:3]] + [source.randint(2, 4), 16]


def wrong_books(source, which):
    """What is no free book of just these names."""
    names = NAMES[which]
    for book in (random_pairs(source, names, 9), random_pairs(source, names, 24)):
        pairs = tuple(book)
        for thing in (book[:-1], book[1:], pairs[:-1], book + book[:1], pairs + pairs[:1], [], (), [book], (book,), [list(pair) for pair in book],
                      tuple(list(pair) for pair in book), dict(book), {pair: 1 for pair in book}, [name for name, code in book],
                      " ".join(names), book[:-1] + [book[-1][::-1]], book[:-1] + [book[-1] + ("0",)], book[:-1] + [book[-1][:1]],
                      book[:-1] + [book[0]], pairs[:-1] + (None,)):
            yield thing
        for at in (0, len(book) - 1):
            name, code = book[at]
            for other in ("", name + "x", name.upper(), "x", "e", "nine", "none ", 0, None, True, ("a",), ["a"], names[(at + 1) % len(names)]):
                if other != name:
                    yield book[:at] + [(other, code)] + book[at + 1:]
            for other in ("", "2", "0 1", " ", 0, 1, None, True, ["0"], ("0",), code + "\n", code + "x"):
                yield book[:at] + [(name, other)] + book[at + 1:]
            for place in range(len(book)):
                if place != at:
                    other, begin = book[place]
                    yield [(name, begin + "0") if pair[0] == name else pair for pair in book]
                    yield tuple((name, begin) if pair[0] == name else pair for pair in book)
    yield [(name, "0" + code) for name, code in random_pairs(source, names, 9)] + [("more", "1")]
    for other in ORDER[:3]:
        if other != which:
            yield random_pairs(source, NAMES[other], 9)
    yield from odd_things()
    yield deep(30)


class FormTest(unittest.TestCase):
    def refused(self, parts, why):
        with self.assertRaises(NoForm) as caught:
            Form(*parts)
        self.assertTrue(same(caught.exception.why, why), (parts, caught.exception.why))
        self.assertIsInstance(caught.exception, OddError)

    def check(self, kinds, spots, sizes, near, far):
        form = Form(kinds, spots, sizes, near, far)
        for told, handed in ((form.kinds, kinds), (form.spots, spots), (form.sizes, sizes)):
            self.assertTrue(same(told, tuple(handed)))
            self.assertTrue(all(one is other for one, other in zip(told, handed)))
        self.assertTrue(same((form.near, form.far), (near, far)))

    def test_forms_in_any_order_as_lists_and_tuples(self):
        source = random.Random(111)
        for _ in range(60):
            kinds, spots, sizes, near, far = right(source, source.choice([4, 6, 12, 24]) if source.random() < 0.8 else 30)
            for books in itertools.product(*[(book, tuple(book), book[::-1]) for book in (kinds, spots, sizes)]):
                codes = dict(kinds)
                if all(len(codes["far" + jump]) + far >= len(codes[jump]) + near for jump in ("jump", "zero")):
                    self.check(*books, near, far)
                else:
                    self.refused([*books, near, far], "far")

    def test_each_near_and_far(self):
        for near in range(-3, 20):
            for far in range(-3, 20):
                books = [EVEN.kinds, list(EVEN.spots), EVEN.sizes]
                if not 2 <= near <= 8:
                    self.refused(books + [near, far], "near")
                elif not near < far <= 16:
                    self.refused(books + [near, far], "far")
                else:
                    self.check(*books, near, far)

    def test_near_and_far_that_are_no_numbers(self):
        books = [EVEN.kinds, EVEN.spots, EVEN.sizes]
        for thing in [True, False, None, "", "4", "16", [], [4], (4,), (), [16], {}, deep(30)]:
            self.refused(books + [thing, 16], "near")
            self.refused(books + [thing, thing], "near")
            self.refused(books + [thing, 1], "near")
            self.refused(books + [2, thing], "far")
            self.refused(books + [1, thing], "near")

    def test_wrong_books(self):
        source = random.Random(112)
        for at, which in enumerate(ORDER[:3]):
            for thing in wrong_books(source, which):
                parts = right(source)
                parts[at] = thing
                self.refused(parts, which)

    def test_a_code_that_begins_another_one(self):
        source = random.Random(113)
        for at, which in enumerate(ORDER[:3]):
            for _ in range(40):
                parts = right(source)
                book = parts[at]
                one, other = source.sample(range(len(book)), 2)
                book[one] = (book[one][0], book[other][1] + source.choice(["", "0", "1", "0110"]))
                self.assertFalse(free(book))
                parts[at] = source.choice([book, tuple(book)])
                self.refused(parts, which)

    def test_the_first_due_goes_first(self):
        source = random.Random(114)
        wrong = {which: list(wrong_books(source, which)) for which in ORDER[:3]}
        wrong["near"] = [1, 9, 0, -2, True, None, "4", [4]]
        wrong["far"] = [2, 1, 0, 17, -16, True, None, "16", (16,)]
        for many in range(1, 6):
            for whys in itertools.combinations(ORDER, many):
                for _ in range(8):
                    parts = right(source)
                    for why in whys:
                        parts[ORDER.index(why)] = source.choice(wrong[why])
                    self.refused(parts, whys[0])

    def test_far_jumps_that_are_shorter(self):
        for jump in ("jump", "zero"):
            for near in range(2, 9):
                for far in range(near + 1, 17):
                    for short in (2, 3, 6):
                        # The far kind's code has so many signs; the near one's just as many as may be, one fewer, one more.
                        for more, fine in ((0, True), (-1, True), (1, False), (2, False)):
                            self.check_shorter(jump, near, far, short, short + far - near + more, fine)

    def check_shorter(self, jump, near, far, short, long, fine):
        others = [name for name in KINDS if name not in (jump, "far" + jump)]
        other = "zero" if jump == "jump" else "jump"
        kinds = [("far" + jump, "0" * short), (jump, "1" * long)]
        # The other jump's near code is the shorter one, so it's right in any case.
        kinds += [(name, "01" + ("000" if name == other else "1" + figures)) for name, figures in
                  zip(others, ("000", "001", "010", "011", "100", "101", "110", "1110", "11110"))]
        if fine:
            self.check(kinds, EVEN.spots, EVEN.sizes, near, far)
        else:
            self.refused([kinds, EVEN.spots, EVEN.sizes, near, far], "far")
            self.refused([kinds, EVEN.spots, EVEN.sizes, 9, far], "near")
            self.refused([kinds, EVEN.spots[1:], EVEN.sizes, near, far], "spots")

    def test_fields_stay(self):
        source = random.Random(115)
        parts = [list(book) for book in (EVEN.kinds, EVEN.spots, EVEN.sizes)]
        form = Form(*parts, 4, 16)
        for part in parts:
            source.shuffle(part)
            part.append(("more", "1"))
            part[0] = None
            del part[2:]
        self.assertTrue(same((form.kinds, form.spots, form.sizes, form.near, form.far),
                             (EVEN.kinds, EVEN.spots, EVEN.sizes, 4, 16)))

    def test_two_forms_have_their_own_fields(self):
        one, other = even_form(3, 9), even_form(5, 11)
        self.assertEqual((one.near, one.far, other.near, other.far), (3, 9, 5, 11))

    def test_own(self):
        def fields(*parts):
            return tuple(vars(Form(*parts)).items())

        for far in (16, 4, None):
            check_own(self, fields, list(EVEN.kinds), list(EVEN.spots), list(EVEN.sizes), 4, far)
        check_own(self, fields, list(EVEN.kinds)[1:], list(EVEN.spots), EVEN.sizes, 4, 16)
        check_own(self, fields, EVEN.kinds, [list(pair) for pair in EVEN.spots], EVEN.sizes, 4, 16)


if __name__ == "__main__":
    unittest.main()
