"""What the tests share: books by a written seed, and what is promised of all that is asked."""

import copy
import itertools
import random


def all_codes(longest):
    """All texts of 1 to longest signs."""
    return ["".join(signs) for many in range(1, longest + 1) for signs in itertools.product("01", repeat=many)]


def names_of(many):
    """So many unlike names, of unlike lengths, not in the order of letters."""
    letters = "qwertyuiopasdfghjklzxcvbnm"
    names = []
    for at in range(many):
        name = letters[at % 26] * (1 + at // 26 % 8)
        names.append(name)
    assert len(set(names)) == many
    return names


def random_code(source, longest):
    return "".join(source.choice("01") for _ in range(source.randint(1, longest)))


def random_book(source, many, longest):
    """Any book: codes may be alike, and may begin others."""
    return [(name, random_code(source, longest)) for name in names_of(many)]


def random_free_book(source, many, longest):
    """A free book, its codes by splitting one code after another; some left out, some made longer."""
    codes = ["0", "1"]
    while len(codes) < many or source.random() < 0.3:
        short = [code for code in codes if len(code) < longest]
        if not short:
            break
        code = source.choice(short)
        codes.remove(code)
        codes += [code + "0", code + "1"]
    assert len(codes) >= many
    source.shuffle(codes)
    return list(zip(names_of(many), codes[:many]))


def begins(one, other):
    return other[:len(one)] == one


def lists_in(thing):
    """All lists within a thing, itself too."""
    found = []
    waiting = [thing]
    while waiting:
        one = waiting.pop()
        if isinstance(one, list):
            found.append(one)
        if isinstance(one, (list, tuple)):
            waiting.extend(one)
    return found


def same(one, other):
    """Whether two things are alike, their kinds too (True isn't 1, a tuple no list)."""
    return repr(one) == repr(other)


def told(ask, handed):
    """What is told, or the refusal's class and its fields."""
    try:
        return ask(*handed)
    except ValueError as refusal:
        return ("refused", refusal.__class__.__name__, dict(vars(refusal)))


def check_own(case, ask, *handed):
    """Nothing handed in is changed or kept, and what is told is the asker's own; the answer."""
    kept = copy.deepcopy(handed)
    first = told(ask, handed)
    case.assertTrue(same(handed, kept), "changed what was handed in")
    answer = copy.deepcopy(first)
    lists = lists_in(first)
    case.assertEqual(len({id(one) for one in lists}), len(lists), "two lists are one and the same")
    inner = {id(one) for one in lists_in(handed)}
    case.assertFalse(any(id(one) in inner for one in lists), "told what was handed in")
    again = told(ask, copy.deepcopy(kept))
    case.assertTrue(same(again, answer), "told otherwise when asked again")
    for one in lists:
        one.append("spoilt")
    case.assertTrue(same(handed, kept), "what is told is what was handed in")
    case.assertTrue(same(again, answer), "what is told twice is one and the same")
    case.assertTrue(same(told(ask, copy.deepcopy(kept)), answer), "what was told was kept")
    for one in lists_in(handed):
        del one[:]
    case.assertTrue(same(again, answer), "what is told changes with what was handed in")
    case.assertTrue(same(told(ask, copy.deepcopy(kept)), answer), "what was handed in was kept")
    return answer


def deep(many):
    """A thing so many deep, of lists and tuples by turns."""
    thing = "0"
    for at in range(many):
        thing = [thing] if at % 2 else (thing,)
    return thing


def odd_things():
    """Things of every kind that are asked of, none of them a book or a paper."""
    return [
        0, 1, -1, 10 ** 12, True, False, None, "", "a", "0", "01", "\n", (), ("a",), ("a", "0"), (("a", "0"),),
        [None], [True], [0], [1], [()], [[]], [("a",)], [("a", "0", "1")], [["a", "0"]], ["a0"], [("a", 0)],
        [("a", None)], [("a", True)], [("a", ["0"])], [("a", ("0",))], [(["a"], "0")], [(("a",), "0")], [(1, "0")],
        [(None, "0")], [(True, "1")], deep(29), deep(30), [deep(28)], (deep(28),), [("a", deep(27))], [(deep(27), "0")],
    ]
