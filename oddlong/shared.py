"""What the other files share; nothing of it is told."""

SIGNS = "01"
SMALL_LETTERS = "abcdefghijklmnopqrstuvwxyz"
LONGEST_NAME = 8

SPOT_NAMES = ("a", "b", "c", "d")
GREATEST_NUMBER = 255
# The name of a size at its place: so many figures to the base of two a number has.
SIZE_NAMES = ("none", "one", "two", "three", "four", "five", "six", "seven", "eight")
ROW_KINDS = ("set", "add", "take", "tell", "ask", "jump", "zero", "stop")
JUMPS = ("jump", "zero")
# What the jumps among the bare rows, near and far, are called in a program.
NEAR_KINDS = {"jump": "jump", "zero": "zero", "farjump": "jump", "farzero": "zero"}
# What stands behind the kind in a bare row; in a row of a program a place stands for "near".
PARTS = {
    "set": ("spot", "number"),
    "add": ("spot", "spot"),
    "take": ("spot", "spot"),
    "tell": ("spot",),
    "ask": ("spot",),
    "jump": ("near",),
    "zero": ("spot", "near"),
    "stop": (),
    "farjump": ("far",),
    "farzero": ("spot", "far"),
    "skip": ("many",),
}


def made_of(text, signs):
    """Whether a text has no signs but these."""
    return text.strip(signs) == ""


def is_name(thing):
    """Whether a thing is a name."""
    return isinstance(thing, str) and 1 <= len(thing) <= LONGEST_NAME and made_of(thing, SMALL_LETTERS)


def is_code(thing):
    """Whether a thing is a text of one or more signs."""
    return isinstance(thing, str) and thing != "" and made_of(thing, SIGNS)


def two_to(power):
    """Two to a power from nought."""
    whole = 1
    for step in range(power):
        whole += whole
    return whole


def figures_of(number, many):
    """A number as so many figures to the base of two, the greatest first."""
    figures = []
    for step in range(many):
        figures.append(str(number & 1))
        number //= 2
    return "".join(figures[::-1])


def number_of(figures):
    """The number that figures to the base of two tell, the greatest first."""
    number = 0
    for figure in figures:
        number = 2 * number + int(figure)
    return number


def rest_of(one, other):
    """What is left of the longer text where one begins the other; None where neither does."""
    if one.startswith(other):
        return one[len(other):]
    if other.startswith(one):
        return other[len(one):]
    return None


def is_number(thing):
    """Whether a thing is a whole number, which True and False are not."""
    return isinstance(thing, int) and not isinstance(thing, bool)


def is_numbers(thing):
    """Whether a thing is a list of numbers."""
    return isinstance(thing, list) and all([is_number(part) for part in thing])


def length_first(text):
    """What texts are put in order by: their length, then as texts stand."""
    return (len(text), text)


def rests_of_codes(book):
    """The rests of each two codes of a book at unlike places."""
    rests = []
    for at, (name, code) in enumerate(book):
        rests.extend(rests_with(book[:at], code))
    return rests


def rests_with(book, text):
    """The rests of a text and each code of a book."""
    rests = [rest_of(code, text) for name, code in book]
    return [rest for rest in rests if rest is not None]


def code_ends(book):
    """The ends of all codes of a book, shorter than these and not empty, each once."""
    return list({code[at:]: True for name, code in book for at in range(1, len(code))})


def lags_behind(book, lag):
    """The tuples (name, code, later): the lag that comes of a lag and each code, where one does."""
    rests = [(name, code, rest_of(lag, code)) for name, code in book]
    # Of a code that is alike the lag nothing is left: both readings come together.
    return [(name, code, rest) for name, code, rest in rests if rest is not None and rest != ""]


def next_layer(rising, layer):
    """All rising uses, and the sums of each two numbers of the layer ahead, rising."""
    sums = [layer[at] + layer[at + 1] for at in range(0, len(layer) - 1, 2)]
    return sorted(rising + sums)


def sum_by(last_layer, many):
    """The least sum of so many names by the last layer of their uses."""
    if many == 1:
        return last_layer[0]
    return sum(last_layer[:2 * many - 2])
