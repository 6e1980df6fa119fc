"""Sheets: programs as rows of words, with labels for the places to which jumps go."""

from oddlong.errors import BadRow
from oddlong.shared import GREATEST_NUMBER, JUMPS, PARTS, ROW_KINDS, SMALL_LETTERS, SPOT_NAMES, is_name, made_of

MOST_ROWS = 200
FIGURES = "0123456789"


def read_program(text):
    """The program of a sheet."""
    rows = text.split("\n")
    places = label_places(rows)
    labels = {}
    program = []
    for at, row in enumerate(rows):
        name = label_in(row)
        if name is not None:
            if name in labels:
                raise BadRow(at)
            labels[name] = True
        elif row != "":
            read = row_in(row, places)
            if read is None or len(program) == MOST_ROWS:
                raise BadRow(at)
            program.append(read)
    return program


def label_places(rows):
    """The places that the labels of a sheet tell, by their names."""
    places = {}
    many = 0
    for row in rows:
        name = label_in(row)
        if name is not None:
            places[name] = many
        elif row != "":
            many += 1
    return places


def label_in(row):
    """The name of a label; None of a row that is none."""
    return row[:-1] if row.endswith(":") and is_name(row[:-1]) else None


def row_in(row, places):
    """The row of a program that a row of a sheet tells; None where it isn't written so."""
    words = row.split(" ")
    kind = words[0]
    if kind not in ROW_KINDS or len(words) != 1 + len(PARTS[kind]):
        return None
    values = [value_in(part, word, places) for part, word in zip(PARTS[kind], words[1:])]
    return None if None in values else (kind,) + tuple(values)


def value_in(part, word, places):
    """What a word tells as such a part of a row; None where it isn't one."""
    if part == "spot":
        return word if word in SPOT_NAMES else None
    if part == "number":
        return number_in(word)
    return places.get(word)


def number_in(word):
    """The number that a word tells; None where it is none."""
    # A word of many figures is refused ahead of being reckoned.
    if word == "" or len(word) > len(str(GREATEST_NUMBER)) or not made_of(word, FIGURES):
        return None
    number = int(word)
    return number if number <= GREATEST_NUMBER and str(number) == word else None


def written_program(program):
    """The sheet of a program."""
    goals = sorted({row[-1] for row in program if row[0] in JUMPS})
    labels = {place: label_name(at) for at, place in enumerate(goals)}
    rows = []
    for at, row in enumerate(program):
        rows.extend(label_rows(labels, at))
        rows.append(row_text(row, labels))
    rows.extend(label_rows(labels, len(program)))
    return "\n".join(rows)


def label_name(at):
    """The name of the label at such a place among all labels."""
    return "l" + SMALL_LETTERS[at // len(SMALL_LETTERS)] + SMALL_LETTERS[at % len(SMALL_LETTERS)]


def label_rows(labels, place):
    """The rows of a sheet that stand ahead of a place: a label, or none."""
    return [labels[place] + ":"] if place in labels else []


def row_text(row, labels):
    """The row of a sheet that tells a row of a program."""
    words = [row[0]]
    for part, value in zip(PARTS[row[0]], row[1:]):
        words.append(labels[value] if part == "near" else str(value))
    return " ".join(words)
