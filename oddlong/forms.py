"""Forms: the books by which rows are written, and how many figures distances have."""

from oddlong.books import free, is_book
from oddlong.errors import NoForm
from oddlong.shared import JUMPS, PARTS, SIZE_NAMES, SPOT_NAMES, is_number

LEAST_NEAR = 2
MOST_NEAR = 8
MOST_FAR = 16


class Form:
    """How rows are written."""

    def __init__(self, kinds, spots, sizes, near, far):
        why = first_wrong(kinds, spots, sizes, near, far)
        if why is not None:
            raise NoForm(why)
        self.kinds = tuple(kinds)
        self.spots = tuple(spots)
        self.sizes = tuple(sizes)
        self.near = near
        self.far = far


def first_wrong(kinds, spots, sizes, near, far):
    """The first of these that no form has; None where all are right."""
    if not is_free_book_of(kinds, list(PARTS)):
        return "kinds"
    if not is_free_book_of(spots, SPOT_NAMES):
        return "spots"
    if not is_free_book_of(sizes, SIZE_NAMES):
        return "sizes"
    if not is_number(near) or not LEAST_NEAR <= near <= MOST_NEAR:
        return "near"
    if not is_number(far) or not near < far <= MOST_FAR or far_is_shorter(kinds, near, far):
        return "far"
    return None


def is_free_book_of(thing, names):
    """Whether a thing is a free book of just these names, as a list or a tuple."""
    book = list(thing) if isinstance(thing, tuple) else thing
    if not is_book(book) or sorted([name for name, code in book]) != sorted(names):
        return False
    return free(book)


def far_is_shorter(kinds, near, far):
    """Whether a far jump would have fewer signs than the near one; then no list of far jumps need be least."""
    codes = dict(kinds)
    return any([len(codes["far" + jump]) + far < len(codes[jump]) + near for jump in JUMPS])
