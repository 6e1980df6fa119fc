"""Whether some text of a book has two readings."""

from oddlong.shared import length_first, rests_of_codes, rests_with

# A stand is a tuple (text, rest, ahead, behind): the names of one reading are written as the text,
# the other's names behind as the text without the rest at its end.


def two_readings(book):
    """The least text that has two readings, with both; None where there's none."""
    waiting = {}
    keep_least(waiting, first_stands(book))
    done = {}
    while waiting:
        stand = least_stand(waiting)
        rest = stand[1]
        if rest == "":
            return in_order(book, stand)
        del waiting[rest]
        done[rest] = True
        keep_least(waiting, [later for later in stands_behind(book, stand) if later[1] not in done])
    return None


def first_stands(book):
    """The stands of each two codes at unlike places."""
    stands = []
    for at, (name, code) in enumerate(book):
        stands.extend(stands_behind(book[:at], (code, code, [name], [])))
    return stands


def stands_behind(book, stand):
    """The stands where the reading that lags has read one code more."""
    text, rest, ahead, behind = stand
    stands = []
    for name, code in book:
        if rest.startswith(code):
            stands.append((text, rest[len(code):], ahead, behind + [name]))
        elif code.startswith(rest):
            over = code[len(rest):]
            stands.append((text + over, over, behind + [name], ahead))
    return stands


def keep_least(waiting, stands):
    """Keep of each rest the stand with the least text: what can follow hangs on the rest alone."""
    for stand in stands:
        rest = stand[1]
        if rest not in waiting or stand_order(stand) < stand_order(waiting[rest]):
            waiting[rest] = stand


def least_stand(waiting):
    """The stand with the least text. No stand that comes later has a lesser one."""
    return min([waiting[rest] for rest in waiting], key=stand_order)


def stand_order(stand):
    """What stands are put in order by."""
    return length_first(stand[0])


def in_order(book, stand):
    """The text and its two readings, first the one whose first name is ahead in the book."""
    text, rest, one, other = stand
    names = [name for name, code in book]
    if names.index(other[0]) < names.index(one[0]):
        return (text, other, one)
    return (text, one, other)


def rests_of(book):
    """The list of all rests of a book, each once, by length, then as texts stand."""
    found = {}
    waiting = rests_of_codes(book)
    while waiting:
        rest = waiting.pop()
        if rest not in found:
            found[rest] = True
            # Of the empty rest no further ones come.
            if rest != "":
                waiting.extend(rests_with(book, rest))
    return sorted(list(found), key=length_first)
