"""Bare rows, whose jumps tell a distance: written in signs by a form, and read."""

from oddlong.errors import BadText, TooFar
from oddlong.shared import PARTS, SIGNS, SIZE_NAMES, figures_of, made_of, number_of, two_to
from oddlong.texts import code_at, lookup_of

SKIP_FIGURES = 3


def put_bare(form, bare):
    """The text of a bare row."""
    texts = [dict(form.kinds)[bare[0]]]
    for part, value in zip(PARTS[bare[0]], bare[1:]):
        texts.append(put_part(form, part, value))
    return "".join(texts)


def put_part(form, part, value):
    """The text of such a part of a bare row."""
    if part == "spot":
        return dict(form.spots)[value]
    if part == "number":
        size = value.bit_length()
        return dict(form.sizes)[SIZE_NAMES[size]] + figures_of(value, size)[1:]
    if part == "many":
        return figures_of(value, SKIP_FIGURES) + "0" * value
    return put_distance(value, form.near if part == "near" else form.far)


def put_distance(distance, figures):
    """The text of a distance of so many figures."""
    if not is_reached(distance, figures):
        raise TooFar(0)
    if distance < 0:
        distance += two_to(figures)
    return figures_of(distance, figures)


def is_reached(distance, figures):
    """Whether a distance can be written with so many figures."""
    half = two_to(figures - 1)
    return -half <= distance < half


def bare_at(form, text, place):
    """The pair (bare, end) of the bare row that is written from a place on."""
    bare, end = Reader(form).bare_from(text, place)
    if bare is None:
        raise BadText(place)
    return (bare, end)


def bares_of(form, text):
    """The list of pairs (place, bare) of the bare rows of which a whole text is."""
    reader = Reader(form)
    pairs = []
    place = 0
    while place != len(text):
        bare, end = reader.bare_from(text, place)
        if bare is None:
            raise BadText(place)
        pairs.append((place, bare))
        place = end
    return pairs


class Reader:
    """Reads texts of one form. What can't be read is told as None, with the place where it would begin."""

    def __init__(self, form):
        self.kinds = lookup_of(form.kinds)
        self.spots = lookup_of(form.spots)
        self.sizes = lookup_of(form.sizes)
        self.near = form.near
        self.far = form.far

    def bare_from(self, text, place):
        """The pair of a bare row at a place and the place behind it."""
        kind, end = name_from(self.kinds, text, place)
        if kind is None:
            return (None, place)
        bare = [kind]
        for part in PARTS[kind]:
            value, end = self.part_from(part, text, end)
            if value is None:
                return (None, place)
            bare.append(value)
        return (tuple(bare), end)

    def part_from(self, part, text, place):
        """The pair of such a part at a place and the place behind it."""
        if part == "spot":
            return name_from(self.spots, text, place)
        if part == "number":
            return self.number_from(text, place)
        if part == "many":
            return many_from(text, place)
        return distance_from(text, place, self.near if part == "near" else self.far)

    def number_from(self, text, place):
        """The pair of a number, with its size ahead, and the place behind it."""
        name, end = name_from(self.sizes, text, place)
        if name is None:
            return (None, place)
        size = SIZE_NAMES.index(name)
        if size == 0:
            return (0, end)
        # The first figure of a number is 1 always, so it isn't written.
        return figures_from("1", text, end, size - 1)


def name_from(lookup, text, place):
    """The pair of the name whose code is at a place and the place behind it."""
    names_by_code, lengths = lookup
    code = code_at(names_by_code, lengths, text, place)
    if code == "":
        return (None, place)
    return (names_by_code[code], place + len(code))


def figures_from(ahead, text, place, many):
    """The pair of the number told by figures ahead and so many at a place, and the place behind these."""
    figures = text[place:place + many]
    if len(figures) != many or not made_of(figures, SIGNS):
        return (None, place)
    return (number_of(ahead + figures), place + many)


def many_from(text, place):
    """The pair of how many signs a skip row passes over and the place behind them."""
    many, end = figures_from("", text, place, SKIP_FIGURES)
    if many is None or text[end:end + many] != "0" * many:
        return (None, place)
    return (many, end + many)


def distance_from(text, place, many):
    """The pair of a distance of so many figures and the place behind it."""
    number, end = figures_from("", text, place, many)
    if number is None:
        return (None, place)
    if number >= two_to(many - 1):
        number -= two_to(many)
    return (number, end)
