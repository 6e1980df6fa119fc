"""Texts that tell two programs by where their reading begins."""

from oddlong.shared import code_ends, is_code, is_number, lags_behind

OTHERS = {"one": "other", "other": "one"}

# A head is a tuple (text, place, stand, one, other): the reading that is ahead has read the text;
# the names one are read from its begin on, the names other from place on.


def two_programs(book, many):
    """The tuple (text, place, one, other) of the least text that is two programs; None where there's none."""
    names_by_code = {code: name for name, code in book}
    waiting = {}
    wait_by_length(waiting, first_heads(book))
    done = {}
    while waiting:
        heads = sorted(waiting.pop(min(list(waiting))), reverse=True)
        while heads:
            head = heads.pop()
            if head[2] in done:
                continue
            # What can follow hangs on the stand alone, so its least text is enough.
            done[head[2]] = True
            if is_end(names_by_code, many, head[2]):
                return ended(names_by_code, head)
            later = heads_behind(book, many, head)
            # Of one and the same text and place, these go ahead of all others that wait.
            heads.extend([one for one in later if one[0] == head[0]])
            wait_by_length(waiting, [one for one in later if one[0] != head[0]])
    return None


def wait_by_length(waiting, heads):
    """Put heads to those that wait, by the lengths of their texts."""
    for head in heads:
        waiting.setdefault(len(head[0]), []).append(head)


def first_heads(book):
    """The heads where one reading has read a code and the other begins within it."""
    heads = []
    for name, code in book:
        heads.extend([(code, at, first_stand(code[at:]), [name], []) for at in range(1, len(code))])
    return heads


def heads_behind(book, many, head):
    """The heads where the reading that lags has read one code more."""
    text, place, stand, one, other = head
    heads = []
    for name, later in stands_behind(book, many, stand):
        # Where the other reading is ahead now, it is by what the code has more than the text had.
        longer = text if later[1] == stand[1] else text + later[0]
        if stand[1] == "one":
            heads.append((longer, place, later, one, other + [name]))
        else:
            heads.append((longer, place, later, one + [name], other))
    return heads


def ended(names_by_code, head):
    """What is told of a head whose lag is alike a code, that code read too."""
    text, place, stand, one, other = head
    name = names_by_code[stand[0]]
    if stand[1] == "one":
        return (text, place, one, other + [name])
    return (text, place, one + [name], other)


def stands_of(book, many):
    """The list of all stands, each once, as tuples stand."""
    found = {}
    waiting = first_stands(book)
    while waiting:
        stand = waiting.pop()
        if stand not in found:
            found[stand] = True
            waiting.extend([later for name, later in stands_behind(book, many, stand)])
    return sorted(list(found))


def first_stands(book):
    """The first stands of a book."""
    return [first_stand(lag) for lag in code_ends(book)]


def first_stand(lag):
    """The stand where one reading has read a code, and is ahead by this end of it."""
    return (lag, "one", 1, 0)


def stands_behind(book, many, stand):
    """The pairs (name, later): the stand that comes of a stand and each code, where one does."""
    lag, ahead, ones, others = stand
    counts = counts_behind(many, stand)
    pairs = []
    for name, code, later in lags_behind(book, lag):
        side = ahead if len(code) < len(lag) else OTHERS[ahead]
        pairs.append((name, (later, side) + counts))
    return pairs


def counts_behind(many, stand):
    """The pair of how many names are told of each reading where the one that lags has read one more."""
    lag, ahead, ones, others = stand
    if ahead == "one":
        return (ones, min(others + 1, many))
    return (min(ones + 1, many), others)


def is_end(codes, many, stand):
    """Whether a stand's lag is alike a code with which both readings have many names."""
    return stand[0] in codes and counts_behind(many, stand) == (many, many)


def shows_none(book, many, thing):
    """Whether a thing is a list of stands that shows that there's no text that is two programs."""
    if not isinstance(thing, list) or not all([is_stand(many, part) for part in thing]):
        return False
    codes = {code: True for name, code in book}
    held = {stand: True for stand in thing}
    wanted = first_stands(book)
    for stand in held:
        if is_end(codes, many, stand):
            return False
        wanted.extend([later for name, later in stands_behind(book, many, stand)])
    return all([stand in held for stand in wanted])


def is_stand(many, thing):
    """Whether a thing is a tuple as stands are."""
    if not isinstance(thing, tuple) or len(thing) != 4:
        return False
    lag, ahead, ones, others = thing
    return is_code(lag) and ahead in ("one", "other") and is_count(many, ones) and is_count(many, others)


def is_count(many, thing):
    """Whether a thing is a number from 0 to many."""
    return is_number(thing) and 0 <= thing <= many
