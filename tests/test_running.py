import random
import unittest

from oddlong.running import run_rows
from tests.helper import SPOTS, check_own, random_program, runs_of_rows, same


class RunRowsTest(unittest.TestCase):
    def check(self, program, given, most):
        """Beside each count of steps; how the runs end."""
        for steps, answer in enumerate(runs_of_rows(program, given, most)):
            self.assertTrue(same(run_rows(program, given, steps), answer), (program, given, steps))
        return answer

    def test_no_rows(self):
        for steps in (0, 1, 5000):
            for given in ([], [7]):
                self.assertTrue(same(run_rows([], given, steps), ([], "stopped", (0, 0, 0, 0), 0)))

    def test_a_stop_row_is_a_step(self):
        program = [("stop",)]
        self.assertTrue(same(run_rows(program, [], 0), ([], "going", (0, 0, 0, 0), 0)))
        self.assertTrue(same(run_rows(program, [], 1), ([], "stopped", (0, 0, 0, 0), 0)))
        self.assertTrue(same(run_rows(program, [], 9), ([], "stopped", (0, 0, 0, 0), 0)))
        program = [("set", "b", 3), ("tell", "b"), ("stop",), ("tell", "b")]
        self.assertTrue(same(run_rows(program, [], 2), ([3], "going", (0, 3, 0, 0), 2)))
        self.assertTrue(same(run_rows(program, [], 3), ([3], "stopped", (0, 3, 0, 0), 2)))
        self.assertTrue(same(run_rows(program, [], 4), ([3], "stopped", (0, 3, 0, 0), 2)))

    def test_standing_at_the_end_with_no_step_left(self):
        program = [("set", "d", 255), ("tell", "d")]
        self.assertTrue(same(run_rows(program, [], 0), ([], "going", (0, 0, 0, 0), 0)))
        self.assertTrue(same(run_rows(program, [], 1), ([], "going", (0, 0, 0, 255), 1)))
        self.assertTrue(same(run_rows(program, [], 2), ([255], "stopped", (0, 0, 0, 255), 2)))
        for row in (("jump", 3), ("zero", "c", 3)):
            program = [row, ("stop",), ("stop",)]
            self.assertTrue(same(run_rows(program, [], 0), ([], "going", (0, 0, 0, 0), 0)))
            self.assertTrue(same(run_rows(program, [], 1), ([], "stopped", (0, 0, 0, 0), 3)))

    def test_going_round(self):
        for row in (("jump", 0), ("zero", "a", 0)):
            for steps in (0, 1, 2, 4999, 5000):
                self.assertTrue(same(run_rows([row], [], steps), ([], "going", (0, 0, 0, 0), 0)))
        program = [("set", "a", 1), ("add", "b", "a"), ("tell", "b"), ("jump", 1)]
        told = [at % 256 for at in range(1, 1667)]
        self.assertTrue(same(run_rows(program, [], 5000), (told, "going", (1, 1667 % 256, 0, 0), 2)))

    def test_jumps_where_nought_alone(self):
        for number in (0, 1, 2, 128, 255):
            for spot in SPOTS:
                program = [("set", spot, number), ("zero", spot, 4), ("tell", spot), ("stop",), ("set", "a", 9)]
                self.check(program, [], 7)
                self.assertEqual(run_rows(program, [], 9)[3], 5 if number == 0 else 3)

    def test_numbers_come_round(self):
        for one in (0, 1, 127, 128, 200, 255):
            for other in (0, 1, 56, 128, 255):
                for kind, number in (("add", (one + other) % 256), ("take", (one - other) % 256)):
                    program = [("set", "a", one), ("set", "c", other), (kind, "a", "c")]
                    self.assertTrue(same(run_rows(program, [], 3), ([], "stopped", (number, 0, other, 0), 3)))
            self.assertTrue(same(run_rows([("set", "b", one), ("add", "b", "b")], [], 2), ([], "stopped", (0, 2 * one % 256, 0, 0), 2)))
            self.assertTrue(same(run_rows([("set", "b", one), ("take", "b", "b")], [], 2), ([], "stopped", (0, 0, 0, 0), 2)))

    def test_every_two_spots(self):
        ahead = [("set", spot, 60 + 70 * at // 2) for at, spot in enumerate(SPOTS)]
        for one in SPOTS:
            for other in SPOTS:
                for kind in ("add", "take"):
                    self.check(ahead + [(kind, one, other), (kind, one, other), ("tell", one), ("tell", other)], [], 9)

    def test_asking(self):
        program = [("ask", "a"), ("tell", "a"), ("ask", "b"), ("ask", "a"), ("tell", "a"), ("tell", "b"), ("jump", 0)]
        for given in ([], [0], [5], [5, 0], [5, 255, 3], [0, 0, 7], list(range(200))):
            self.check(program, given, 60)
        self.assertTrue(same(run_rows([("set", "a", 9), ("ask", "a")], [], 2), ([], "stopped", (0, 0, 0, 0), 2)))
        self.assertTrue(same(run_rows([("ask", "a"), ("ask", "b")], [3], 2), ([], "stopped", (3, 0, 0, 0), 2)))

    def test_200_numbers_given(self):
        source = random.Random(151)
        given = [source.randrange(256) for _ in range(200)]
        program = [("ask", "c"), ("tell", "c"), ("jump", 0)]
        answer = run_rows(program, given, 5000)
        self.assertTrue(same(answer, (given + [0] * 1467, "going", (0, 0, 0, 0), 2)))

    def test_any_programs(self):
        source = random.Random(152)
        ends = {}
        for _ in range(600):
            program = random_program(source, source.randint(0, 12), source.choice([0.1, 0.3, 0.6]))
            given = [source.choice([0, 0, 1, 255, source.randrange(256)]) for _ in range(source.randint(0, 8))]
            answer = self.check(program, given, 40)
            stop = answer[1] == "stopped" and answer[3] < len(program)
            ends[answer[1], stop] = ends.get((answer[1], stop), 0) + 1
        self.assertGreater(min(ends["stopped", True], ends["stopped", False], ends["going", False]), 50)

    def test_200_rows_and_5000_steps(self):
        source = random.Random(153)
        for _ in range(20):
            program = [row for row in random_program(source, 199, 0.2) if row != ("stop",)]
            end = len(program)
            program = [row[:-1] + (min(row[-1], end),) if row[0] in ("jump", "zero") else row for row in program] + [("jump", 0)]
            given = [source.randrange(256) for _ in range(200)]
            answers = runs_of_rows(program, given, 5000)
            for steps in (0, 1, 199, 200, 1000, 4999, 5000):
                self.assertTrue(same(run_rows(program, given, steps), answers[steps]))

    def test_own(self):
        program = [("ask", "a"), ("tell", "a"), ("jump", 0)]
        for steps in (0, 2, 9):
            check_own(self, run_rows, program[:], [1, 2], steps)
            check_own(self, run_rows, [], [], steps)


if __name__ == "__main__":
    unittest.main()
