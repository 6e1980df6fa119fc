"""How often a program writes each kind, spot and size, and forms that are least for it."""

from oddlong.forms import Form
from oddlong.least import least_book
from oddlong.making import made
from oddlong.shared import PARTS, SIZE_NAMES, SPOT_NAMES


def uses_of(program):
    """The tuple (kinds, spots, sizes) of the uses that a program has with all jumps near."""
    kinds = {name: 0 for name in PARTS}
    spots = {name: 0 for name in SPOT_NAMES}
    sizes = {name: 0 for name in SIZE_NAMES}
    for row in program:
        kinds[row[0]] += 1
        for part, value in zip(PARTS[row[0]], row[1:]):
            if part == "spot":
                spots[value] += 1
            elif part == "number":
                sizes[SIZE_NAMES[value.bit_length()]] += 1
    return (list(kinds.items()), list(spots.items()), list(sizes.items()))


def least_form(program, most, near, far):
    """A form of such a near and far whose books are least for a program, with codes of at most most signs."""
    kinds, spots, sizes = [least_in_order(uses, most) for uses in uses_of(program)]
    return Form(kinds, spots, sizes, near, far)


def least_in_order(uses, most):
    """A least book in which of names of one use the later ones have no shorter codes."""
    # least_book gives of such names the first the longest code. A far jump's must be no shorter than the near one's,
    # which is used no less and stands ahead of it: so the uses are handed in turned about.
    codes = dict(least_book(uses[::-1], most))
    return [(name, codes[name]) for name, use in uses]


def size_of(form, program):
    """How many signs the made text of a program has."""
    text, places, fars = made(form, program)
    return len(text)
