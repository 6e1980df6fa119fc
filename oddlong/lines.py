"""Programs laid on lines, so that their rows lie in few of them."""

from oddlong.bare import put_bare
from oddlong.making import jumps_of, missed_among, refuse_missed, row_size, row_texts

MANY_SKIPS = 8


def laid(form, program, uses, line):
    """The tuple (text, places, number) of a layout of the least sum."""
    sizes = far_sizes(form, program)
    prices = line_prices(form, program, uses, line)
    skips = skips_of(form)
    pads = []
    places = []
    ends = [0]
    for at, (size, use) in enumerate(zip(sizes, uses)):
        price, pad = least_pad(own_prices(size, use, prices[at + 1]), list(skips), ends[-1])
        pads.append(pad)
        places.append(ends[-1] + pad)
        ends.append(places[-1] + size)
    places.append(ends[-1])
    jumps = jumps_of(program)
    refuse_missed(missed_among(program, places, ends[1:], jumps, form.far))
    texts = row_texts(form, program, places, ends[1:], jumps)
    return ("".join([skips[pad] + text for pad, text in zip(pads, texts)]), places, prices[0][0])


def line_prices(form, program, uses, line):
    """A paper of the least sum: for each place, and the end, the least sums from there on by where a line is begun."""
    pads = list(skips_of(form))
    prices = [[0] * line]
    for size, use in reversed(list(zip(far_sizes(form, program), uses))):
        own = own_prices(size, use, prices[-1])
        prices.append([least_pad(own, pads, start)[0] for start in range(line)])
    return prices[::-1]


def far_sizes(form, program):
    """How many signs each row has where all jumps are far."""
    return [row_size(form, row, True) for row in program]


def skips_of(form):
    """What may be put ahead of a row by how many signs it has: nothing, or one skip row."""
    texts = [""] + [put_bare(form, ("skip", many)) for many in range(MANY_SKIPS)]
    return {len(text): text for text in texts}


def own_prices(size, use, later):
    """The least sums from a row of so many signs on, by where in a line its own signs begin."""
    line = len(later)
    return [use * lines_in(start, size, line) + later[(start + size) % line] for start in range(line)]


def lines_in(start, size, line):
    """In how many lines so many signs lie that begin at the sign start of a line."""
    return (start + size - 1) // line + 1


def least_pad(own, pads, start):
    """The pair (price, pad) of the least price, then the least pad, where what is ahead ends at start."""
    return min([(own[(start + pad) % len(own)], pad) for pad in pads])
