"""Programs written in signs, with just those jumps far that must be."""

from oddlong.bare import is_reached, put_bare
from oddlong.errors import TooFar
from oddlong.shared import JUMPS


def places_by(form, program, fars):
    """The places in signs of all rows and of the end, where just the jumps at these places are far."""
    return places_with(row_sizes(form, program), fars)


def made(form, program):
    """The tuple (text, places, fars) of a program, with the least list of far jumps."""
    fars = least_fars(form, program)
    places = places_by(form, program, fars)
    return ("".join(row_texts(form, program, places, places[1:], fars)), places, fars)


def why_far(form, program):
    """A paper of the far jumps: pairs (place, distance), each not reached near with those ahead far."""
    many = len(least_fars(form, program))
    sizes = row_sizes(form, program)
    paper = []
    while len(paper) < many:
        paper.append(missed_near(form, program, sizes, [at for at, distance in paper])[0])
    return paper


def far_sum(form, program):
    """How many signs more the made text has than it would with all jumps near."""
    return places_by(form, program, least_fars(form, program))[-1] - places_by(form, program, [])[-1]


def least_fars(form, program):
    """The rising list of the places of the far jumps."""
    sizes = row_sizes(form, program)
    fars = []
    missed = missed_near(form, program, sizes, fars)
    # A jump that isn't reached near isn't either with more far ones: rows only grow, and so do distances.
    while missed:
        fars = sorted(fars + [at for at, distance in missed])
        missed = missed_near(form, program, sizes, fars)
    places = places_with(sizes, fars)
    refuse_missed(missed_among(program, places, places[1:], fars, form.far))
    return fars


def jumps_of(program):
    """The rising list of the places of all jumps."""
    return [at for at, row in enumerate(program) if row[0] in JUMPS]


def bare_of(row, far, distance):
    """The bare row of a row; of a jump the near or the far one, with that distance."""
    if row[0] not in JUMPS:
        return row
    kind = "far" + row[0] if far else row[0]
    return (kind,) + row[1:-1] + (distance,)


def row_sizes(form, program):
    """For each row the pair of how many signs it has near, and far."""
    return [(row_size(form, row, False), row_size(form, row, True)) for row in program]


def row_size(form, row, far):
    """How many signs a row has, of jumps the near or the far one."""
    # A distance has as many figures whatever it is, so 0 stands for it.
    return len(put_bare(form, bare_of(row, far, 0)))


def places_with(sizes, fars):
    """The same as places_by, of rows that have so many signs."""
    is_far = {at: True for at in fars}
    places = [0]
    for at, (near, far) in enumerate(sizes):
        places.append(places[-1] + (far if at in is_far else near))
    return places


def missed_near(form, program, sizes, fars):
    """The pairs (place, distance) of the near jumps that aren't reached where just these are far."""
    is_far = {at: True for at in fars}
    places = places_with(sizes, fars)
    nears = [at for at in jumps_of(program) if at not in is_far]
    return missed_among(program, places, places[1:], nears, form.near)


def missed_among(program, places, ends, jumps, figures):
    """The pairs (place, distance) of those of the jumps that aren't reached with so many figures."""
    pairs = [(at, places[program[at][-1]] - ends[at]) for at in jumps]
    return [(at, distance) for at, distance in pairs if not is_reached(distance, figures)]


def refuse_missed(missed):
    """Refuse where some jump is missed, with the first."""
    if missed:
        raise TooFar(missed[0][0])


def row_texts(form, program, places, ends, fars):
    """The texts of all rows, which begin at places and end ahead of ends, where just these jumps are far."""
    is_far = {at: True for at in fars}
    texts = []
    for at, row in enumerate(program):
        distance = places[row[-1]] - ends[at] if row[0] in JUMPS else 0
        texts.append(put_bare(form, bare_of(row, at in is_far, distance)))
    return texts
