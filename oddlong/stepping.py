"""Where a reading begun anywhere falls in step with the true one, and readings that never do."""

from oddlong.shared import code_ends, lags_behind, length_first
from oddlong.texts import bounds_of, reading_from, written


def in_step(book, text, place):
    """The least place from which on a reading begun at a place goes as the true one; None where there's none."""
    true_places = {at: True for at in bounds_of(book, text)}
    names, places = reading_from(book, text, place)
    for at in places:
        if at in true_places:
            return at
    return None


def lags_of(book):
    """The list of all lags of a book, each once, by length, then as texts stand."""
    return sorted(code_ends(book), key=length_first)


def never_ring(book):
    """A tuple (one, other, place) of two readings that never come together; None where there's none."""
    ending = ending_lags(book)
    endless = [lag for lag in lags_of(book) if lag not in ending]
    if endless == []:
        return None
    return ring_from(book, ending, endless[0])


def ranks_of(book):
    """The list of pairs (lag, rank), by lags_of; None where there's a ring."""
    lags = lags_of(book)
    ending = ending_lags(book)
    if len(ending) != len(lags):
        return None
    codes = {code: True for name, code in book}
    ranks = {}
    for lag in ending:
        counts = [1 + ranks[later] for name, code, later in lags_behind(book, lag)]
        ranks[lag] = max(counts, default=1 if lag in codes else 0)
    return [(lag, ranks[lag]) for lag in lags]


def greatest_delay(book):
    """The greatest number of signs till a reading begun within a code falls in step; None where there's a ring."""
    ending = ending_lags(book)
    if len(ending) != len(lags_of(book)):
        return None
    codes = {code: True for name, code in book}
    # Lags from which both readings never come together have no delay here.
    delays = {}
    for lag in ending:
        found = [len(lag)] if lag in codes else []
        for name, code, later in lags_behind(book, lag):
            if later in delays:
                # The reading that lags behind the code is the one that stands at the nearer place.
                found.append(min(len(lag), len(code)) + delays[later])
        if found:
            delays[lag] = max(found)
    return max([delays[lag] for lag in delays], default=0)


def ending_lags(book):
    """The lags from which no ring is come to, as a dict of True, each put behind all that come of it."""
    left = lags_of(book)
    laters = {lag: [later for name, code, later in lags_behind(book, lag)] for lag in left}
    ending = {}
    found = list(left)
    while found:
        found = [lag for lag in left if all([later in ending for later in laters[lag]])]
        ending.update({lag: True for lag in found})
        left = [lag for lag in left if lag not in ending]
    return ending


def ring_from(book, ending, lag):
    """The ring to which the readings come from a lag that doesn't end, by lags that don't either."""
    # Which of the readings is ahead counts too: where they have changed about, the round isn't closed yet.
    stands = []
    names = []
    stand = (lag, True)
    while stand not in stands:
        stands.append(stand)
        name, stand = endless_step(book, ending, stand)
        names.append(name)
    lag, ahead = stand
    steps = list(zip(stands, names))[stands.index(stand):]
    # The reading that lags reads: so the one that is ahead where the round begins reads where it's not.
    one = [name for (later, side), name in steps if side != ahead]
    other = [name for (later, side), name in steps if side == ahead]
    return (one, other, len(written(book, one)) - len(lag))


def endless_step(book, ending, stand):
    """The pair (name, stand) of a code by which a lag comes that doesn't end."""
    lag, ahead = stand
    steps = [step for step in lags_behind(book, lag) if step[2] not in ending]
    name, code, later = steps[0]
    return (name, (later, ahead if len(code) < len(lag) else not ahead))
