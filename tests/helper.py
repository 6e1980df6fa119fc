"""What the tests share: books by a written seed, and what is promised of all that is asked."""

import copy
import itertools
import random

from oddlong.forms import Form

KINDS = ["set", "add", "take", "tell", "ask", "jump", "zero", "stop", "farjump", "farzero", "skip"]
SPOTS = ["a", "b", "c", "d"]
SIZES = ["none", "one", "two", "three", "four", "five", "six", "seven", "eight"]


def all_codes(longest):
    """All texts of 1 to longest signs."""
    return ["".join(signs) for many in range(1, longest + 1) for signs in itertools.product("01", repeat=many)]


def names_of(many):
    """So many unlike names, of unlike lengths, not in the order of letters."""
    letters = "qwertyuiopasdfghjklzxcvbnm"
    names = []
    for at in range(many):
        name = letters[at % 26] * (1 + at // 26 % 8)
        names.append(name)
    assert len(set(names)) == many
    return names


def random_code(source, longest):
    return "".join(source.choice("01") for _ in range(source.randint(1, longest)))


def random_book(source, many, longest):
    """Any book: codes may be alike, and may begin others."""
    return [(name, random_code(source, longest)) for name in names_of(many)]


def random_free_book(source, many, longest):
    """A free book of any names."""
    return list(zip(names_of(many), random_free_codes(source, many, longest)))


def random_free_codes(source, many, longest):
    """Codes of which none begins another, by splitting one code after another; some left out, some made longer."""
    codes = ["0", "1"]
    while len(codes) < many or source.random() < 0.3:
        short = [code for code in codes if len(code) < longest]
        if not short:
            break
        code = source.choice(short)
        codes.remove(code)
        codes += [code + "0", code + "1"]
    assert len(codes) >= many
    source.shuffle(codes)
    return codes[:many]


def codes_below(ahead, longest):
    """All lists of codes that begin so, of at most so many signs, of which none begins another."""
    if len(ahead) == longest:
        return [[], [ahead]]
    found = [one + other for one in codes_below(ahead + "0", longest) for other in codes_below(ahead + "1", longest)]
    return found + [[ahead]] if ahead else found


def all_free_books(longest):
    """All free books of codes of at most so many signs."""
    return [list(zip(names_of(len(codes)), codes)) for codes in codes_below("", longest) if codes]


def great_free_books(source, rounds):
    """Free books of 12 codes of 12 signs, which begin as others end more often than drawn ones do."""
    books = [list(zip(names_of(12), ["0" * many + "1" for many in range(12)])), [("a", "0" * 12)],
             list(zip(names_of(12), [("000001" + "011111")[at:] + "000001011111"[:at] for at in range(12)]))]
    for _ in range(rounds):
        codes = set()
        base = source.choice(["01", "001", "0", "011", "0010"])
        share = source.choice([0, 0.7])
        while len(codes) < 12:
            at = source.randrange(12)
            codes.add((base * 12)[:at] + source.choice("01") + (base * 12)[at + 1:12] if source.random() < share
                      else "".join(source.choice("01") for _ in range(12)))
        books.append(list(zip(names_of(12), source.sample(sorted(codes), 12))))
    return books


def free_books_of_many_kinds(source, rounds):
    """Free books to 12 pairs and 12 signs: cut out of a tree, and drawn of codes that fall in step more often."""
    books = []
    for _ in range(rounds):
        books.append(random_free_book(source, source.randint(1, 12), source.choice([4, 5, 6, 8, 12])))
        books += [drawn_free_book(source, shape) for shape in ("any", "few ones", "marked", "glued")]
    return books


def drawn_free_book(source, shape):
    """A free book of a few codes of any signs, of few ones, with a mark at their ends, or glued of a few pieces."""
    longest = source.choice([4, 6, 8, 12])
    pieces = [random_code(source, 4) for _ in range(3)]
    codes = []
    for _ in range(source.randint(2, 7)):
        code = random_code(source, longest)
        if shape == "few ones":
            code = "".join(source.choice("0001") for _ in range(source.randint(1, longest)))
        elif shape == "marked":
            code = (code + "01")[-longest:]
        elif shape == "glued":
            code = "".join(source.choice(pieces) for _ in range(source.randint(1, 4)))[:12]
        if not any(begins(code, other) or begins(other, code) for other in codes):
            codes.append(code)
    return list(zip(names_of(len(codes)), codes))


def ends_by_hand(book):
    """The ends of codes, shorter, not empty, by length, then as texts stand."""
    codes = [code for name, code in book]
    return sorted({code[-many:] for code in codes for many in range(1, len(code))}, key=lambda end: (len(end), end))


def come_of(codes, lag):
    """The lags that come of a lag and each of the codes."""
    found = []
    for code in codes:
        if code != lag and begins(code, lag):
            found.append(lag[len(code):])
        elif code != lag and begins(lag, code):
            found.append(code[len(lag):])
    return found


def random_pairs(source, names, longest):
    """A free book of just these names, in any order."""
    pairs = list(zip(names, random_free_codes(source, len(names), longest)))
    source.shuffle(pairs)
    return pairs


def random_form(source, most_far=16, near=None):
    """A form of any codes; near and far mostly the least apart, that far jumps be missed too."""
    while True:
        kinds = random_pairs(source, KINDS, source.choice([4, 6, 12]))
        spots = random_pairs(source, SPOTS, source.choice([2, 3, 8]))
        sizes = random_pairs(source, SIZES, source.choice([4, 5, 9]))
        few = near or source.randint(2, min(8, most_far - 1))
        far = source.choice([few + 1, source.randint(few + 1, max(most_far, few + 1))])
        codes = dict(kinds)
        if all(len(codes["far" + jump]) + far >= len(codes[jump]) + few for jump in ("jump", "zero")):
            return Form(kinds, spots, sizes, few, far)


def even_form(near=4, far=16):
    """A form with codes of four, two and four signs, in the order of the names."""
    return Form([(name, figures(at, 4)) for at, name in enumerate(KINDS)],
                [(name, figures(at, 2)) for at, name in enumerate(SPOTS)],
                [(name, figures(at, 4)) for at, name in enumerate(SIZES)], near, far)


def figures(number, many):
    return format(number, "b").zfill(many) if many else ""


def written_bare(form, bare):
    """The text of a bare row, by the words of the document, kind by kind; no distance is refused here."""
    kinds, spots, sizes = dict(form.kinds), dict(form.spots), dict(form.sizes)
    text = kinds[bare[0]]
    if bare[0] == "set":
        shown = format(bare[2], "b") if bare[2] else ""
        return text + spots[bare[1]] + sizes[SIZES[len(shown)]] + shown[1:]
    if bare[0] in ("add", "take"):
        return text + spots[bare[1]] + spots[bare[2]]
    if bare[0] in ("tell", "ask"):
        return text + spots[bare[1]]
    if bare[0] == "skip":
        return text + figures(bare[1], 3) + "0" * bare[1]
    if bare[0] == "stop":
        return text
    if bare[0] in ("zero", "farzero"):
        text += spots[bare[1]]
    many = form.far if bare[0].startswith("far") else form.near
    return text + figures(bare[-1] % 2 ** many, many)


def distances(many):
    return range(-2 ** (many - 1), 2 ** (many - 1))


def all_bares(form):
    """All bare rows that a form can write."""
    bares = [("set", spot, number) for spot in SPOTS for number in range(256)]
    bares += [(kind, one, other) for kind in ("add", "take") for one in SPOTS for other in SPOTS]
    bares += [(kind, spot) for kind in ("tell", "ask") for spot in SPOTS]
    bares += [("stop",)] + [("skip", many) for many in range(8)]
    for ahead, many in (("", form.near), ("far", form.far)):
        bares += [(ahead + "jump", distance) for distance in distances(many)]
        bares += [(ahead + "zero", spot, distance) for spot in SPOTS for distance in distances(many)]
    return bares


def some_bares(source, form, many):
    """Any bare rows of all kinds."""
    bares = []
    for _ in range(many):
        kind = source.choice(KINDS)
        bare = (kind,)
        if kind not in ("jump", "farjump", "stop", "skip"):
            bare += (source.choice(SPOTS),)
        if kind in ("add", "take"):
            bare += (source.choice(SPOTS),)
        if kind == "set":
            bare += (source.choice([0, 1, 2, 255, source.randrange(256)]),)
        if kind == "skip":
            bare += (source.randrange(8),)
        if kind.endswith("jump") or kind.endswith("zero"):
            bare += (source.choice(distances(form.far if kind.startswith("far") else form.near)),)
        bares.append(bare)
    return bares


class Table:
    """All bare rows of a form by their texts: what reads them by nothing else."""

    def __init__(self, form):
        self.bares = {written_bare(form, bare): bare for bare in all_bares(form)}
        self.lengths = sorted({len(text) for text in self.bares})

    def read(self, text, place):
        """The pair (bare, end) at a place; None where none is."""
        found = [(self.bares[text[place:place + many]], place + many) for many in self.lengths
                 if 0 <= place <= len(text) - many and text[place:place + many] in self.bares]
        assert len(found) <= 1
        return found[0] if found else None


def random_program(source, many, jumps=0.4):
    """Any program of so many rows, such a share of them jumps."""
    program = []
    for _ in range(many):
        spot, other = source.choice(SPOTS), source.choice(SPOTS)
        at = source.choice([0, many, source.randint(0, many), source.randint(0, many)])
        if source.random() < jumps:
            row = source.choice([("jump", at), ("zero", spot, at)])
        else:
            row = source.choice([("set", spot, source.choice([0, 1, 255, source.randrange(256)])), ("add", spot, other),
                                 ("take", spot, other), ("tell", spot), ("ask", spot), ("stop",)])
        program.append(row)
    return program


def some_jumping_bares(source, form, many, wild=0.0):
    """Any bare rows whose jumps lead to where one begins, or to the end, but such a share of them to anywhere; and their places."""
    bares = some_bares(source, form, many)
    places = [0]
    for bare in bares:
        places.append(places[-1] + len(written_bare(form, bare)))
    for at, bare in enumerate(bares):
        if bare[0].endswith("jump") or bare[0].endswith("zero"):
            reached = distances(form.far if bare[0].startswith("far") else form.near)
            goals = [place - places[at + 1] for place in places if place - places[at + 1] in reached]
            if source.random() >= wild:
                bares[at] = bare[:-1] + (source.choice(goals),)
    return bares, places


def program_by_hand(bares, places):
    """The program that bare rows at these places tell, by the words of the document; the first jump's place that leads elsewhere."""
    rows = [at for at, bare in enumerate(bares) if bare[0] != "skip"]
    program = []
    for at in rows:
        bare = bares[at]
        if bare[0] in ("jump", "zero", "farjump", "farzero"):
            goal = places[at + 1] + bare[-1]
            if goal not in places:
                return places[at]
            later = [row for row in rows if places[row] >= goal]
            bare = (bare[0].replace("far", ""),) + bare[1:-1] + (rows.index(later[0]) if later else len(rows),)
        program.append(bare)
    return program


def jump_places(program):
    return [at for at, row in enumerate(program) if row[0] in ("jump", "zero")]


def bare_row(row, far, distance):
    """The bare row of a program's row."""
    ahead = "far" if far else ""
    if row[0] == "jump":
        return (ahead + "jump", distance)
    if row[0] == "zero":
        return (ahead + "zero", row[1], distance)
    return row


def places_written(form, program, fars):
    """The places in signs of all rows and of the end, row by row."""
    places = [0]
    for at, row in enumerate(program):
        places.append(places[-1] + len(written_bare(form, bare_row(row, at in fars, 0))))
    return places


def distance_in(program, places, at):
    return places[program[at][-1]] - places[at + 1]


def missed(form, program, fars, jumps):
    """Those of the jumps that aren't reached where just fars are far."""
    places = places_written(form, program, fars)
    return [at for at in jumps if distance_in(program, places, at) not in distances(form.far if at in fars else form.near)]


def skip_sizes(form):
    """How many signs a skip row may have, and nought for none."""
    return [0] + [len(written_bare(form, ("skip", many))) for many in range(8)]


def sizes_of(form, program):
    return [len(written_bare(form, bare_row(row, True, 0))) for row in program]


def lines_of(place, size, line):
    return len({sign // line for sign in range(place, place + size)})


def sum_forwards(form, program, uses, line, start):
    """The least sum of rows where what is ahead of them ends at start, from the first row on."""
    least = {start % line: 0}
    for size, use in zip(sizes_of(form, program), uses):
        later = {}
        for end, total in least.items():
            for pad in skip_sizes(form):
                price = total + use * lines_of(end + pad, size, line)
                key = (end + pad + size) % line
                later[key] = min(price, later.get(key, price))
        least = later
    return min(least.values())


def random_uses(source, many):
    greatest = source.choice([0, 1, 3, 100, 10 ** 12])
    return [source.choice([0, greatest, source.randint(0, greatest)]) for _ in range(many)]


def sum_by_depths(uses, most):
    """The least sum of a book for uses: signs gone down depth by depth, by how many codes end and how many go on."""
    falling = sorted((use for name, use in uses), reverse=True)
    many = len(falling)
    left = [sum(falling[at:]) for at in range(many + 1)]
    costs = {(0, 1): 0}
    best = None
    for depth in range(most):
        later = {}
        for (ended, going), cost in costs.items():
            room = min(2 * going, many)
            for end in range(0, min(room, many - ended) + 1):
                total = cost + left[ended]
                if ended + end == many:
                    best = total if best is None else min(best, total)
                elif room - end > 0:
                    key = (ended + end, room - end)
                    later[key] = min(total, later.get(key, total))
        costs = later
    return best


def begins(one, other):
    return other[:len(one)] == one


class Spots:
    """A machine's spots, what was told, and what is given still, row by row as the document has them."""

    def __init__(self, given):
        self.numbers = dict.fromkeys(SPOTS, 0)
        self.left = list(given)
        self.told = []

    def do(self, row):
        """Do a row, bare or not; whether it jumps."""
        match row:
            case ("set", spot, number):
                self.numbers[spot] = number
            case ("add", spot, other):
                self.numbers[spot] += self.numbers[other]
            case ("take", spot, other):
                self.numbers[spot] -= self.numbers[other]
            case ("tell", spot):
                self.told.append(self.numbers[spot])
            case ("ask", spot):
                self.numbers[spot] = self.left.pop(0) if self.left else 0
            case ("jump" | "farjump", distance):
                return True
            case ("zero" | "farzero", spot, distance):
                return self.numbers[spot] == 0
            case _:
                raise AssertionError(row)
        for spot in SPOTS:
            while self.numbers[spot] > 255:
                self.numbers[spot] -= 256
            while self.numbers[spot] < 0:
                self.numbers[spot] += 256
        return False

    def answer(self, how, at):
        return (self.told[:], how, tuple(self.numbers[spot] for spot in SPOTS), at)


def runs_of_rows(program, given, most):
    """What a run tells for each count of steps from 0 to most."""
    spots = Spots(given)
    at, stopped, answers = 0, False, []
    for _ in range(most + 1):
        if stopped or at == len(program):
            answers.append(spots.answer("stopped", at))
            continue
        answers.append(spots.answer("going", at))
        if program[at] == ("stop",):
            stopped = True
        elif spots.do(program[at]):
            at = program[at][-1]
        else:
            at += 1
    return answers


def lists_in(thing):
    """All lists within a thing, itself too."""
    found = []
    waiting = [thing]
    while waiting:
        one = waiting.pop()
        if isinstance(one, list):
            found.append(one)
        if isinstance(one, (list, tuple)):
            waiting.extend(one)
    return found


def same(one, other):
    """Whether two things are alike, their kinds too (True isn't 1, a tuple no list)."""
    return repr(one) == repr(other)


def plain(handed):
    """What is handed in, forms as their fields."""
    return [vars(thing) if isinstance(thing, Form) else thing for thing in handed]


def told(ask, handed):
    """What is told, or the refusal's class and its fields."""
    try:
        return ask(*handed)
    except ValueError as refusal:
        return ("refused", refusal.__class__.__name__, dict(vars(refusal)))


def check_own(case, ask, *handed):
    """Nothing handed in is changed or kept, and what is told is the asker's own; the answer."""
    kept = copy.deepcopy(handed)
    first = told(ask, handed)
    case.assertTrue(same(plain(handed), plain(kept)), "changed what was handed in")
    answer = copy.deepcopy(first)
    lists = lists_in(first)
    case.assertEqual(len({id(one) for one in lists}), len(lists), "two lists are one and the same")
    inner = {id(one) for one in lists_in(handed)}
    case.assertFalse(any(id(one) in inner for one in lists), "told what was handed in")
    again = told(ask, copy.deepcopy(kept))
    case.assertTrue(same(again, answer), "told otherwise when asked again")
    for one in lists:
        one.append("spoilt")
    case.assertTrue(same(plain(handed), plain(kept)), "what is told is what was handed in")
    case.assertTrue(same(again, answer), "what is told twice is one and the same")
    case.assertTrue(same(told(ask, copy.deepcopy(kept)), answer), "what was told was kept")
    for one in lists_in(handed):
        del one[:]
    case.assertTrue(same(again, answer), "what is told changes with what was handed in")
    case.assertTrue(same(told(ask, copy.deepcopy(kept)), answer), "what was handed in was kept")
    return answer


def deep(many):
    """A thing so many deep, of lists and tuples by turns."""
    thing = "0"
    for at in range(many):
        thing = [thing] if at % 2 else (thing,)
    return thing


def odd_things():
    """Things of every kind that are asked of, none of them a book or a paper."""
    return [
        0, 1, -1, 10 ** 12, True, False, None, "", "a", "0", "01", "\n", (), ("a",), ("a", "0"), (("a", "0"),),
        [None], [True], [0], [1], [()], [[]], [("a",)], [("a", "0", "1")], [["a", "0"]], ["a0"], [("a", 0)],
        [("a", None)], [("a", True)], [("a", ["0"])], [("a", ("0",))], [(["a"], "0")], [(("a",), "0")], [(1, "0")],
        [(None, "0")], [(True, "1")], deep(29), deep(30), [deep(28)], (deep(28),), [("a", deep(27))], [(deep(27), "0")],
    ]


def random_thing(source, depth=0):
    """Anything made of numbers, True, False, None, texts, lists and tuples."""
    if depth < 5 and source.random() < 0.6 - 0.08 * depth:
        parts = [random_thing(source, depth + 1) for _ in range(source.randint(0, 4))]
        return source.choice([list, tuple])(parts)
    return source.choice([0, 1, 2, -1, 3, 10 ** 20, True, False, None, "", "0", "1", "01", "10", "a", "q", "w", "one", "other", "0 1", "x\n"])
