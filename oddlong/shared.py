"""What the other files share; nothing of it is told."""

SIGNS = "01"
SMALL_LETTERS = "abcdefghijklmnopqrstuvwxyz"
LONGEST_NAME = 8


def made_of(text, signs):
    """Whether a text has no signs but these."""
    return text.strip(signs) == ""


def is_name(thing):
    """Whether a thing is a name."""
    return isinstance(thing, str) and 1 <= len(thing) <= LONGEST_NAME and made_of(thing, SMALL_LETTERS)


def is_code(thing):
    """Whether a thing is a text of one or more signs."""
    return isinstance(thing, str) and thing != "" and made_of(thing, SIGNS)


def two_to(power):
    """Two to a power from nought."""
    whole = 1
    for step in range(power):
        whole += whole
    return whole


def figures_of(number, many):
    """A number as so many figures to the base of two, the greatest first."""
    figures = []
    for step in range(many):
        figures.append(str(number & 1))
        number //= 2
    return "".join(figures[::-1])


def rest_of(one, other):
    """What is left of the longer text where one begins the other; None where neither does."""
    if one.startswith(other):
        return one[len(other):]
    if other.startswith(one):
        return other[len(one):]
    return None
