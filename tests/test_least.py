import copy
import itertools
import random
import unittest

from oddlong.books import free, halves, is_book
from oddlong.errors import TooFull
from oddlong.least import layers_of, least_book, least_sum
from oddlong.leastcheck import shows_least
from oddlong.readings import two_readings
from tests.helper import check_own, deep, names_of, odd_things, same, sum_by_depths


def sum_gone_through(uses, most):
    """The least sum of all rows of lengths that have room; None where none has."""
    best = None
    for lengths in itertools.product(range(1, most + 1), repeat=len(uses)):
        if sum(2 ** (most - length) for length in lengths) <= 2 ** most:
            total = sum(use * length for (name, use), length in zip(uses, lengths))
            best = total if best is None else min(best, total)
    return best


def layers_by_words(uses, most):
    layers = [sorted(use for name, use in uses)]
    for _ in range(most - 1):
        ahead = layers[-1][:]
        later = [use for name, use in uses]
        while len(ahead) >= 2:
            later.append(ahead.pop(0) + ahead.pop(0))
        layers.append(sorted(later))
    return layers


def sum_of(book, uses):
    return sum(use * len(code) for (name, code), (same_name, use) in zip(book, uses))


def random_uses(source, many):
    greatest = source.choice([0, 1, 2, 5, 100, 10 ** 12])
    kind = source.randrange(4)
    if kind == 0:
        row = [source.randint(0, greatest) for _ in range(many)]
    elif kind == 1:
        row = [greatest] * many
    elif kind == 2:
        row = [min(2 ** at, 10 ** 12) for at in range(many)]
        source.shuffle(row)
    else:
        row = [source.choice([0, 0, 1, greatest]) for _ in range(many)]
    return list(zip(names_of(many), row))


def least_most(many):
    """The least most that lets so many names have codes."""
    return max(1, (many - 1).bit_length())


class LeastTest(unittest.TestCase):
    def check(self, uses, most, least):
        self.assertTrue(same(least_sum(uses, most), least), (uses, most))
        book = least_book(uses, most)
        self.assertTrue(is_book(book) and free(book), (uses, most, book))
        self.assertEqual([name for name, code in book], [name for name, use in uses])
        self.assertLessEqual(max(len(code) for name, code in book), most)
        self.assertEqual(sum_of(book, uses), least, (uses, most, book))
        layers = layers_of(uses, most)
        self.assertTrue(same(layers, layers_by_words(uses, most)), (uses, most))
        last = layers[-1]
        self.assertEqual(least, last[0] if len(uses) == 1 else sum(last[:2 * len(uses) - 2]))
        self.assertIs(shows_least(uses, most, least, layers), True)

    def check_full(self, uses, most):
        for ask in (least_book, least_sum, layers_of):
            with self.assertRaises(TooFull):
                ask(uses, most)

    def test_written(self):
        self.assertTrue(same(least_sum([("a", 5), ("b", 1), ("c", 1), ("d", 2)], 4), 15))
        self.assertTrue(same(least_sum([("a", 5), ("b", 1), ("c", 1), ("d", 2)], 2), 18))
        self.assertTrue(same([len(code) for name, code in least_book([("a", 5), ("b", 1), ("c", 1), ("d", 2)], 4)], [1, 3, 3, 2]))
        self.assertTrue(same(layers_of([("a", 5), ("b", 1), ("c", 2)], 3), [[1, 2, 5], [1, 2, 3, 5], [1, 2, 3, 5, 8]]))
        self.assertTrue(same(layers_of([("a", 3), ("b", 3)], 1), [[3, 3]]))

    def test_one_name(self):
        for use in (0, 1, 7, 10 ** 12):
            for most in (1, 2, 24):
                self.check([("a", use)], most, use)
                self.assertTrue(same(layers_of([("a", use)], most), [[use]] * most))
                self.assertEqual(len(least_book([("a", use)], most)[0][1]), 1)

    def test_all_short_uses(self):
        for many in range(1, 5):
            for row in itertools.product((0, 1, 2, 5), repeat=many):
                uses = list(zip(names_of(many), row))
                for most in range(1, 5):
                    least = sum_gone_through(uses, most)
                    if many > 2 ** most:
                        self.assertIsNone(least)
                        self.check_full(uses, most)
                    else:
                        self.check(uses, most, least)

    def test_beside_all_rows_of_lengths(self):
        source = random.Random(81)
        for _ in range(60):
            uses = random_uses(source, source.randint(5, 6))
            for most in (3, 4):
                least = sum_gone_through(uses, most)
                self.assertEqual(sum_by_depths(uses, most), least)
                self.check(uses, most, least)

    def test_many_names(self):
        source = random.Random(82)
        for _ in range(80):
            many = source.choice([source.randint(1, 40), 16, 17, 32, 33, 40])
            uses = random_uses(source, many)
            for most in {least_most(many), least_most(many) + 1, source.randint(least_most(many), 24), 24}:
                self.check(uses, most, sum_by_depths(uses, most))

    def test_uses_that_want_long_codes(self):
        uses = list(zip(names_of(40), [min(2 ** at, 10 ** 12) for at in range(40)]))
        for most in (6, 7, 12, 23, 24):
            self.check(uses, most, sum_by_depths(uses, most))
            self.check(uses[::-1], most, sum_by_depths(uses, most))

    def test_just_as_many_names_as_there_is_room_for(self):
        for most in range(1, 6):
            for use in (0, 1, 10 ** 12):
                uses = [(name, use * at) for at, name in enumerate(names_of(2 ** most))]
                total = sum(number for name, number in uses)
                self.check(uses, most, most * total)
                self.check_full(uses + [("more", 0)], most)
                self.check_full([("more", use)] + uses, most)
                self.assertEqual(*halves(least_book(uses, most)))
                self.check(uses + [("more", use)], most + 1, sum_by_depths(uses + [("more", use)], most + 1))

    def test_no_book_read_one_way_has_a_less_sum(self):
        source = random.Random(83)
        codes = ["0", "1", "00", "01", "10", "11", "000", "001", "011", "110", "111"]
        for _ in range(20):
            uses = random_uses(source, 3)
            least = least_sum(uses, 3)
            for three in itertools.permutations(codes, 3):
                book = [(name, code) for (name, use), code in zip(uses, three)]
                if sum_of(book, uses) < least:
                    self.assertIsNotNone(two_readings(book))

    def test_own(self):
        source = random.Random(84)
        for many, most in ((1, 1), (1, 3), (2, 1), (3, 1), (5, 3), (9, 3), (20, 5)):
            for ask in (least_book, least_sum, layers_of):
                for _ in range(5):
                    check_own(self, ask, random_uses(source, many), most)
        check_own(self, layers_of, [("a", 0), ("b", 0)], 24)


class ShowsLeastTest(unittest.TestCase):
    def changed(self, layers):
        """The list of lists with one thing otherwise, at every place."""
        for at in range(len(layers)):
            yield layers[:at] + layers[at + 1:]
            yield layers[:at] + [layers[at]] + layers[at:]
            for other in (tuple(layers[at]), [layers[at]], None, True, 0, "", str(layers[at]), [], layers[at] + [0], layers[at][::-1]):
                if not same(other, layers[at]):
                    yield layers[:at] + [other] + layers[at + 1:]
            for place in range(len(layers[at])):
                yield from self.changed_at(layers, at, place)

    def changed_at(self, layers, at, place):
        layer = layers[at]
        number = layer[place]
        parts = [number + 1, number - 1, -number, None, str(number), [number], (number,)]
        if number in (0, 1):
            parts.append(bool(number))
        rows = [layer[:place] + [part] + layer[place + 1:] for part in parts]
        rows += [layer[:place] + layer[place + 1:], layer[:place] + [number] + layer[place:]]
        if place + 1 < len(layer):
            rows.append(layer[:place] + [layer[place + 1], number] + layer[place + 2:])
            rows.append([layer[-1]] + layer[1:-1] + [layer[0]])
        for row in rows:
            if not same(row, layer):
                yield layers[:at] + [row] + layers[at + 1:]

    def check(self, uses, most):
        layers = layers_of(uses, most)
        number = least_sum(uses, most)
        self.assertIs(shows_least(uses, most, number, layers), True)
        self.assertIs(shows_least(uses, most, number, copy.deepcopy(layers)), True)
        self.assertIs(shows_least(uses, most, number, tuple(layers)), False)
        self.assertIs(shows_least(uses, most, number, [layers]), False)
        self.assertIs(shows_least(uses, most, number, layers + [[]]), False)
        for other in (number + 1, number - 1, -number - 1, 2 * number + 1):
            self.assertIs(shows_least(uses, most, other, layers), False)
        if number in (0, 1):
            self.assertIs(shows_least(uses, most, bool(number), layers), False)
        for thing in self.changed(layers):
            if not same(thing, layers):
                self.assertIs(shows_least(uses, most, number, thing), False, (uses, most, thing))

    def test_small(self):
        for row in ((0,), (1,), (5,), (0, 0), (0, 1), (1, 1), (3, 1), (1, 0, 1), (2, 1, 1), (0, 0, 0, 1), (5, 1, 1, 2), (1, 1, 1, 1, 1)):
            for most in range(1, 6):
                if len(row) <= 2 ** most:
                    self.check(list(zip(names_of(len(row)), row)), most)

    def test_many_names(self):
        source = random.Random(91)
        for many, most in ((1, 24), (8, 3), (12, 6), (16, 4), (40, 6)):
            self.check(random_uses(source, many), most)

    def test_layers_of_other_uses(self):
        uses = [("a", 5), ("b", 1), ("c", 2)]
        for other in ([("a", 5), ("b", 1)], [("a", 5), ("b", 1), ("c", 3)], [("a", 5), ("b", 1), ("c", 2), ("d", 2)]):
            self.assertIs(shows_least(uses, 3, least_sum(other, 3), layers_of(other, 3)), False)
        self.assertIs(shows_least(uses, 3, least_sum(uses, 4), layers_of(uses, 4)), False)
        self.assertIs(shows_least(uses, 4, least_sum(uses, 3), layers_of(uses, 3)), False)
        self.assertIs(shows_least(uses[::-1], 3, least_sum(uses, 3), layers_of(uses, 3)), True)

    def test_wrong_things(self):
        for uses in ([("a", 5), ("b", 1)], [("a", 0)], [("a", 1)]):
            for most in (1, 2):
                number = least_sum(uses, most)
                for thing in odd_things() + [[], [[], []], [[[]]], [[None]], [[True]], [[False]], [[deep(27)]], [[[0]]]]:
                    self.assertIs(shows_least(uses, most, number, thing), False, thing)

    def test_own(self):
        uses = [("a", 5), ("b", 1), ("c", 2)]
        for thing in (layers_of(uses, 3), [[1, 2, 5]] * 3, [], None, [[True]]):
            check_own(self, shows_least, uses[:], 3, 11, copy.deepcopy(thing))
            check_own(self, shows_least, uses[:], 3, 10, copy.deepcopy(thing))


if __name__ == "__main__":
    unittest.main()
