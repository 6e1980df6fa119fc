"""Whether a paper shows the least sum of a layout."""

from oddlong.lines import line_prices
from oddlong.shared import is_numbers


def shows_prices(form, program, uses, line, thing):
    """Whether a thing is the list of lists that line_prices tells."""
    if not isinstance(thing, list) or not all([is_numbers(part) for part in thing]):
        return False
    return thing == line_prices(form, program, uses, line)
