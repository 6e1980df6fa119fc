"""Texts of codes, written and read."""

from oddlong.errors import BadText, NoName


def written(book, names):
    """The text of the names' codes, one behind the other."""
    codes = {name: code for name, code in book}
    for name in names:
        if name not in codes:
            raise NoName(name)
    return "".join([codes[name] for name in names])


def text_of(book, thing):
    """The text of a thing that is a list of names of a book; None of any other thing."""
    if not isinstance(thing, list) or not all([isinstance(name, str) for name in thing]):
        return None
    try:
        return written(book, thing)
    except NoName:
        return None


def read_all(book, text):
    """The list of names that is written as a text of a free book."""
    names, places = whole_reading(book, text)
    return names


def bounds_of(book, text):
    """The rising list of places where the codes of a text begin, and its length."""
    names, places = whole_reading(book, text)
    return places


def read_from(book, text, place):
    """The pair (names, end) of what is read from a place on, as far as it goes."""
    names, places = reading_from(book, text, place)
    return (names, places[-1])


def whole_reading(book, text):
    """The reading of a whole text, refused where it doesn't go to the end."""
    names, places = reading_from(book, text, 0)
    if places[-1] != len(text):
        raise BadText(places[-1])
    return (names, places)


def reading_from(book, text, place):
    """The names read from a place on, and the places of their codes and of the end."""
    names_by_code, lengths = lookup_of(book)
    names = []
    places = [place]
    code = code_at(names_by_code, lengths, text, place)
    while code != "":
        names.append(names_by_code[code])
        place += len(code)
        places.append(place)
        code = code_at(names_by_code, lengths, text, place)
    return (names, places)


def lookup_of(book):
    """What codes of a book are looked up by: the names by their codes, and the rising lengths of these."""
    return ({code: name for name, code in book}, sorted({len(code) for name, code in book}))


def code_at(names_by_code, lengths, text, place):
    """The code that a text has at a place; the empty text where it has none."""
    for length in lengths:
        code = text[place:place + length]
        if code in names_by_code:
            return code
    return ""
