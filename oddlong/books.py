"""Books of codes: whether they are free, how full they are, and codes by their lengths."""

from oddlong.errors import TooFull
from oddlong.shared import figures_of, is_code, is_name, rest_of, two_to


def is_book(thing):
    """Whether a thing is a list of one or more pairs (name, code), the names unlike."""
    if not isinstance(thing, list) or thing == []:
        return False
    if not all([is_entry(part) for part in thing]):
        return False
    return len({name for name, code in thing}) == len(thing)


def is_entry(thing):
    """Whether a thing is a pair (name, code)."""
    return isinstance(thing, tuple) and len(thing) == 2 and is_name(thing[0]) and is_code(thing[1])


def free(book):
    """Whether no code of a book is the beginning of another one."""
    return clash(book) is None


def clash(book):
    """The names of the first two codes of which one begins the other; None of a free book."""
    for at, (other, code) in enumerate(book):
        for one, code_ahead in book[:at]:
            if rest_of(code_ahead, code) is not None:
                return (one, other)
    return None


def halves(book):
    """The pair (sum, whole): how much of the whole the codes of a book fill."""
    return halves_by([len(code) for name, code in book])


def halves_by(lengths):
    """The same by the lengths of codes alone."""
    longest = max(lengths)
    return (sum([two_to(longest - length) for length in lengths]), two_to(longest))


def codes_by(lengths):
    """The free book of these names, in this order, with codes of these lengths."""
    filled, whole = halves_by([length for name, length in lengths])
    if filled > whole:
        raise TooFull("there is no free book of these lengths")
    codes = least_codes([length for name, length in lengths])
    return [(name, code) for (name, length), code in zip(lengths, codes)]


def least_codes(lengths):
    """The codes of these lengths, in their order, each the least that none ahead begins."""
    codes = [""] * len(lengths)
    number = 0
    figures = 0
    for length, at in sorted([(length, at) for at, length in enumerate(lengths)]):
        # All numbers below this one have a code ahead as their beginning, and it has none:
        # so it stays when figures are put behind.
        number *= two_to(length - figures)
        figures = length
        codes[at] = figures_of(number, figures)
        number += 1
    return codes
