"""Whether a paper shows that a number is the least sum for uses."""

from oddlong.shared import is_number, next_layer, sum_by


def shows_least(uses, most, number, thing):
    """Whether a thing is the list of layers of uses, and a number the least sum by it."""
    if not isinstance(thing, list) or len(thing) != most or not all([is_layer(part) for part in thing]):
        return False
    rising = sorted([use for name, use in uses])
    if thing[0] != rising:
        return False
    for layer, later in zip(thing, thing[1:]):
        if later != next_layer(rising, layer):
            return False
    return is_number(number) and number == sum_by(thing[-1], len(uses))


def is_layer(thing):
    """Whether a thing is a list of numbers."""
    return isinstance(thing, list) and all([is_number(part) for part in thing])
