"""Codes of the least sum for uses, with a paper of that."""

from oddlong.books import codes_by
from oddlong.errors import TooFull
from oddlong.shared import next_layer, sum_by, two_to


def least_book(uses, most):
    """A free book of the least sum for uses, with codes of at most most signs."""
    layers = layers_of(uses, most)
    ranks = sorted([(use, at) for at, (name, use) in enumerate(uses)])
    lengths = lengths_by([use for use, at in ranks], layers)
    length_at = {at: length for (use, at), length in zip(ranks, lengths)}
    return codes_by([(name, length_at[at]) for at, (name, use) in enumerate(uses)])


def least_sum(uses, most):
    """The sum of such a book."""
    return sum_by(layers_of(uses, most)[-1], len(uses))


def layers_of(uses, most):
    """The paper of the least sum: most lists of numbers."""
    if len(uses) > two_to(most):
        raise TooFull("there are more names than codes of so many signs")
    rising = sorted([use for name, use in uses])
    layers = [rising]
    while len(layers) < most:
        layers.append(next_layer(rising, layers[-1]))
    return layers


def lengths_by(rising, layers):
    """The lengths of the codes, by rising use: in how many layers each use is taken."""
    if len(rising) == 1:
        return [1]
    lengths = [0] * len(rising)
    taken = 2 * len(rising) - 2
    for layer in reversed(layers):
        many = uses_among(rising, layer, taken)
        for at in range(many):
            lengths[at] += 1
        # The others that are taken are sums, each of two numbers of the layer ahead.
        taken = 2 * (taken - many)
    return lengths


def uses_among(rising, layer, taken):
    """How many of the first numbers of a layer are uses themselves, not sums."""
    # Of alike numbers the uses go first: so a use that is taken in a layer is taken in each later one,
    # and the lengths have room; with uses of 0 they might have none the other way about.
    places = [layer.index(use) + at - rising.index(use) for at, use in enumerate(rising)]
    return len([place for place in places if place < taken])
