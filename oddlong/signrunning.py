"""The machine that runs signs, and the lines that it fetches."""

from oddlong.bare import Reader
from oddlong.running import Machine


def run_signs(form, text, given, steps):
    """The tuple (told, how, numbers, place) of a run of so many steps at most."""
    answer, spans = signs_run(form, text, given, steps)
    return answer


def heard(form, text, given, steps):
    """The places in signs at which bare rows were done as steps, in order."""
    answer, spans = signs_run(form, text, given, steps)
    return [place for place, end in spans]


def lines_heard(form, text, given, steps, line):
    """How many times a line of so many signs is fetched, where one is kept."""
    answer, spans = signs_run(form, text, given, steps)
    fetched = 0
    kept = None
    for place, end in spans:
        for wanted in range(place // line, (end - 1) // line + 1):
            if wanted != kept:
                fetched += 1
                kept = wanted
    return fetched


def signs_run(form, text, given, steps):
    """The pair of what run_signs tells and the list of pairs (place, end) of the bare rows done as steps."""
    signs = Signs(form, text)
    machine = Machine(given)
    spans = []
    place = signs.behind_skips(0)
    while place != len(text) and len(spans) < steps:
        bare, end = signs.bare_on(place)
        if bare is None:
            return (machine.answer("lost", place), spans)
        spans.append((place, end))
        if bare[0] == "stop":
            return (machine.answer("stopped", place), spans)
        place = signs.behind_skips(end + bare[-1] if machine.jumps(bare) else end)
    return (machine.answer("stopped" if place == len(text) else "going", place), spans)


class Signs:
    """A text whose bare rows are read once each, however often a run comes there."""

    def __init__(self, form, text):
        self.reader = Reader(form)
        self.text = text
        self.bares = {}
        self.landings = {}

    def bare_on(self, place):
        """The pair (bare, end) at any place; (None, place) where there's none, outside of the text too."""
        if place not in self.bares:
            # Python would count a place below nought from the text's end.
            self.bares[place] = self.reader.bare_from(self.text, place) if place >= 0 else (None, place)
        return self.bares[place]

    def is_skip(self, place):
        """Whether a skip row is at a place."""
        bare, end = self.bare_on(place)
        return bare is not None and bare[0] == "skip"

    def behind_skips(self, place):
        """The place behind all skip rows that are at a place, one behind the other."""
        passed = []
        while place not in self.landings and self.is_skip(place):
            passed.append(place)
            bare, place = self.bare_on(place)
        landing = self.landings.get(place, place)
        # A round that goes on at many skip rows would else pass them one by one each time.
        for at in passed:
            self.landings[at] = landing
        return landing
