"""Whether a paper shows that two readings never come together, or that all do or break off."""

from oddlong.shared import code_ends, is_code, is_number, lags_behind
from oddlong.texts import text_of


def shows_ring(book, thing):
    """Whether a thing is a tuple (one, other, place) of two readings that never come together."""
    if not isinstance(thing, tuple) or len(thing) != 3:
        return False
    one, other, place = thing
    text = text_of(book, one)
    if text is None or not is_number(place) or not 1 <= place < len(text):
        return False
    if text_of(book, other) != text[place:] + text[:place]:
        return False
    begins = {at: True for at in begins_of(book, one)}
    return all([(place + at) % len(text) not in begins for at in begins_of(book, other)])


def begins_of(book, names):
    """The places where the codes of names begin."""
    lengths = {name: len(code) for name, code in book}
    begins = []
    end = 0
    for name in names:
        begins.append(end)
        end += lengths[name]
    return begins


def shows_ranks(book, thing):
    """Whether a thing is a list of pairs of lags and numbers that fall from each lag to those that come of it."""
    if not isinstance(thing, list) or not all([is_ranked(part) for part in thing]):
        return False
    ranks = {lag: rank for lag, rank in thing}
    if len(ranks) != len(thing) or not all([lag in ranks for lag in code_ends(book)]):
        return False
    return all([falls(book, ranks, lag) for lag in ranks])


def is_ranked(thing):
    """Whether a thing is a pair of a text of signs and a number from 0."""
    if not isinstance(thing, tuple) or len(thing) != 2:
        return False
    return is_code(thing[0]) and is_number(thing[1]) and thing[1] >= 0


def falls(book, ranks, lag):
    """Whether all lags that come of a lag have lesser ranks."""
    laters = [later for name, code, later in lags_behind(book, lag)]
    return all([later in ranks and ranks[later] < ranks[lag] for later in laters])
