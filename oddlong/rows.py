"""Rows of a machine, and programs of them."""

from oddlong.shared import GREATEST_NUMBER, PARTS, ROW_KINDS, SPOT_NAMES, is_number


def is_program(thing):
    """Whether a thing is a list of rows whose jumps go on at its places or its end."""
    return isinstance(thing, list) and all([is_row(part, len(thing)) for part in thing])


def is_row(thing, end):
    """Whether a thing is a row of a program with that end."""
    if not isinstance(thing, tuple) or thing == () or thing[0] not in ROW_KINDS:
        return False
    parts = PARTS[thing[0]]
    if len(thing) != 1 + len(parts):
        return False
    return all([is_part(part, value, end) for part, value in zip(parts, thing[1:])])


def is_part(part, value, end):
    """Whether a value is what such a part of a row must be."""
    if part == "spot":
        return value in SPOT_NAMES
    greatest = GREATEST_NUMBER if part == "number" else end
    return is_number(value) and 0 <= value <= greatest
