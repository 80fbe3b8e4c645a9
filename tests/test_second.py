"""Many lines of calls, by a fixed chance, against the second table of helper.py."""

import random
import unittest

from helper import (
    SecondLine, all_told_of, ask, changed_begin, line_by_chance, next_call, play_on, right_begin, second_line, see,
    seen, stands,
)


class SecondWay(unittest.TestCase):
    def check(self, calls, expected, number):
        for call, found, wanted in zip(calls, ask(*calls), expected):
            if found != wanted:
                self.fail(f"line {number}: {call} answered {found}, not {wanted}")

    def test_whole_lines(self):
        answered = {}
        for number in range(150):
            chance = random.Random(number)
            first = [next_call(chance, SecondLine()) for _ in range(number % 3)]
            calls = line_by_chance(chance, 300, [*first, right_begin(chance)])
            line = SecondLine()
            expected = [line.answer(call) for call in calls]
            for call, answer in zip(calls, expected):
                answered[call[0], tuple(answer[:2 if call[0] == 14 else 1])] = True
            self.check(calls, expected, number)
        self.assertEqual({number for number, answer in answered if answer[0] == 0}, set(range(18)))
        replays = [answer for number, answer in sorted(answered) if number == 14]
        self.assertEqual(replays, [(-2,), (-1,), (0, 0), (0, 1), (0, 2)])
        self.assertEqual([answer for number, answer in sorted(answered) if number == 15], [(-5,), (-1,), (0,)])

    def test_all_that_is_told(self):
        for number in range(60):
            chance = random.Random(1000 + number)
            begun = right_begin(chance)
            line = second_line(begun)
            made = play_on(chance, line, chance.randint(0, 150))
            calls = [begun, *made, *all_told_of(line.table.n)]
            line = SecondLine()
            self.check(calls, [line.answer(call) for call in calls], number)

    def test_begins(self):
        refused = {}
        for number in range(600):
            chance = random.Random(number)
            line = SecondLine()
            calls = [changed_begin(chance), stands(), see(0), see(1), seen(1)]
            expected = [line.answer(call) for call in calls]
            refused[expected[0][0]] = True
            self.check(calls, expected, number)
        self.assertEqual(sorted(refused), [-6, -1, 0])


if __name__ == "__main__":
    unittest.main()
