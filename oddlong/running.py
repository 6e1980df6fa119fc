"""The machine that runs rows."""

from oddlong.shared import GREATEST_NUMBER, SPOT_NAMES


class Machine:
    """The numbers of the spots, what was told, and what was given."""

    def __init__(self, given):
        self.numbers = {spot: 0 for spot in SPOT_NAMES}
        self.told = []
        self.given = given
        self.asked = 0

    def jumps(self, row):
        """Do a row, bare or not, that is no stop row; whether it jumps."""
        kind = row[0]
        if kind in ("jump", "farjump"):
            return True
        if kind in ("zero", "farzero"):
            return self.numbers[row[1]] == 0
        if kind == "tell":
            self.told.append(self.numbers[row[1]])
        else:
            self.numbers[row[1]] = self.number_by(row)
        return False

    def number_by(self, row):
        """The number that the spot of such a row has behind it."""
        kind = row[0]
        if kind == "set":
            return row[2]
        if kind == "ask":
            return self.next_given()
        # The add and the take row's number comes round behind the greatest one.
        number, other = self.numbers[row[1]], self.numbers[row[2]]
        return (number + other if kind == "add" else number - other) % (GREATEST_NUMBER + 1)

    def next_given(self):
        """The next number given, 0 where none is left."""
        self.asked += 1
        return self.given[self.asked - 1] if self.asked <= len(self.given) else 0

    def answer(self, how, at):
        """What is told of a run that ends so, at a place."""
        return (list(self.told), how, tuple([self.numbers[spot] for spot in SPOT_NAMES]), at)


def run_rows(program, given, steps):
    """The tuple (told, how, numbers, at) of a run of so many steps at most."""
    machine = Machine(given)
    at = 0
    for step in range(steps):
        if at == len(program):
            break
        row = program[at]
        if row[0] == "stop":
            return machine.answer("stopped", at)
        at = row[-1] if machine.jumps(row) else at + 1
    return machine.answer("stopped" if at == len(program) else "going", at)
