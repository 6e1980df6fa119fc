"""Whether a paper shows that just those jumps are far that must be."""

from oddlong.making import missed_near, row_sizes
from oddlong.shared import is_number


def shows_far(form, program, fars, thing):
    """Whether a thing is a list of pairs as why_far tells it, of just fars, and all other jumps are reached near."""
    if not isinstance(thing, list) or not all([is_reason(part) for part in thing]):
        return False
    if sorted([at for at, distance in thing]) != fars:
        return False
    sizes = row_sizes(form, program)
    ahead = []
    for at, distance in thing:
        if (at, distance) not in missed_near(form, program, sizes, ahead):
            return False
        ahead.append(at)
    return missed_near(form, program, sizes, fars) == []


def is_reason(thing):
    """Whether a thing is a pair of numbers."""
    return isinstance(thing, tuple) and len(thing) == 2 and is_number(thing[0]) and is_number(thing[1])
