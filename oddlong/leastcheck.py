"""Whether a paper shows that a number is the least sum for uses."""

from oddlong.shared import is_number, is_numbers, next_layer, sum_by


def shows_least(uses, most, number, thing):
    """Whether a thing is the list of layers of uses, and a number the least sum by it."""
    if not isinstance(thing, list) or len(thing) != most or not all([is_numbers(part) for part in thing]):
        return False
    rising = sorted([use for name, use in uses])
    if thing[0] != rising:
        return False
    for layer, later in zip(thing, thing[1:]):
        if later != next_layer(rising, layer):
            return False
    return is_number(number) and number == sum_by(thing[-1], len(uses))
