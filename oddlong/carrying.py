"""Programs that texts of signs tell, carried over from one form to another."""

from oddlong.bare import bares_of
from oddlong.errors import NoPlace, NoTarget
from oddlong.making import made
from oddlong.shared import NEAR_KINDS


def parsed(form, text):
    """The program that a text tells."""
    bares = bares_of(form, text)
    rows = rows_by_place(bares, len(text))
    ends = [place for place, bare in bares[1:]] + [len(text)]
    return [row_of(place, bare, end, rows) for (place, bare), end in zip(bares, ends) if bare[0] != "skip"]


def carried(old, new, text):
    """The tuple that made tells of the new form and the program that a text tells in the old one."""
    return made(new, parsed(old, text))


def carried_place(old, new, text, place):
    """The place in the new text of what begins at a place of the old one."""
    new_text, places, fars = carried(old, new, text)
    rows = rows_by_place(bares_of(old, text), len(text))
    if place not in rows:
        raise NoPlace("no row begins there")
    return places[rows[place]]


def rows_by_place(bares, end):
    """The places of rows by those in signs of all bare rows and of the end; a skip row has that of what follows it."""
    rows = {}
    many = 0
    for place, bare in bares:
        rows[place] = many
        if bare[0] != "skip":
            many += 1
    rows[end] = many
    return rows


def row_of(place, bare, end, rows):
    """The row of the bare row that is at a place and ends ahead of end."""
    if bare[0] not in NEAR_KINDS:
        return bare
    goal = end + bare[-1]
    if goal not in rows:
        raise NoTarget(place)
    return (NEAR_KINDS[bare[0]],) + bare[1:-1] + (rows[goal],)
