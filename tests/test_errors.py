import unittest

from oddlong import errors

WITH_WORDS = ["TooFull", "NoPlace"]
WITH_FIELD = [("NoName", "name"), ("BadText", "place"), ("NoForm", "why"), ("TooFar", "row"), ("NoTarget", "place"),
              ("BadRow", "row")]


class ErrorsTest(unittest.TestCase):
    def test_each_stands_straight_under_odd_error(self):
        self.assertEqual(errors.OddError.__bases__, (ValueError,))
        for name in WITH_WORDS + [name for name, field in WITH_FIELD]:
            self.assertEqual(getattr(errors, name).__bases__, (errors.OddError,), name)

    def test_there_are_nine_unlike_classes(self):
        names = ["OddError"] + WITH_WORDS + [name for name, field in WITH_FIELD]
        found = {getattr(errors, name) for name in names}
        self.assertEqual(len(found), 9)
        for one in found - {errors.OddError}:
            for other in found - {errors.OddError, one}:
                self.assertFalse(issubclass(one, other))

    def test_each_has_its_field(self):
        for name, field in WITH_FIELD:
            for value in ("kinds", "", 0, 7, 20000):
                refusal = getattr(errors, name)(value)
                self.assertEqual(vars(refusal), {field: value})
                with self.assertRaises(ValueError) as caught:
                    raise refusal
                self.assertEqual(getattr(caught.exception, field), value)

    def test_two_refusals_keep_their_own_fields(self):
        one, other = errors.BadText(3), errors.BadText(4)
        self.assertEqual((one.place, other.place), (3, 4))

    def test_words(self):
        for name in WITH_WORDS:
            self.assertEqual(str(getattr(errors, name)("so many words")), "so many words")


if __name__ == "__main__":
    unittest.main()
