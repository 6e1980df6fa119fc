"""Whether a paper shows that no text of a book has two readings, or that one has."""

from oddlong.shared import is_code, rests_of_codes, rests_with
from oddlong.texts import text_of


def shows_one(book, thing):
    """Whether a thing is a list of texts of signs, none empty, in which all rests are."""
    if not isinstance(thing, list) or not all([is_code(text) for text in thing]):
        return False
    held = {text: True for text in thing}
    if not holds_all(held, rests_of_codes(book)):
        return False
    return all([holds_all(held, rests_with(book, text)) for text in held])


def holds_all(held, rests):
    """Whether all these rests are held."""
    return all([rest in held for rest in rests])


def shows_two(book, thing):
    """Whether a thing is a tuple of a text and two unlike lists of names, both written as it."""
    if not isinstance(thing, tuple) or len(thing) != 3:
        return False
    text, one, other = thing
    # Of what is no list of names None is told, so a text is asked for first.
    return isinstance(text, str) and text_of(book, one) == text and text_of(book, other) == text and one != other
