"""Many lines of calls, by a fixed chance, against the second table of helper.py."""

import random
import unittest

from helper import LARGEST, SecondLine, ask, begin, begin_with_row, late, pick, pool, see, seen, sizes, stands, waits

EDGES = (-LARGEST, -1, 0, 1, 2, 3, 4, 5, 7, 8, 9, 15, 16, 19, 20, 21, LARGEST)


def right_begin(chance):
    classes = chance.sample(range(4), chance.randint(1, 4))
    sorts = [(c, chance.randrange(16), chance.choice((1, 1, 2, 5, 20))) for c in classes]
    for _ in range(chance.choice((0, 1, 5, 20, 60))):
        sorts.append((chance.choice(classes), chance.randrange(16), chance.randint(1, 20)))
    chance.shuffle(sorts)
    recipe = [0, 0, 0, 0]
    for _ in range(chance.choice((1, 2, 3, 5, 8, 15, 20))):
        c = chance.choice(classes)
        recipe[c] = min(15, recipe[c] + 1)
    seed = chance.choice((0, 1, LARGEST, chance.randrange(LARGEST)))
    return begin(chance.randint(2, 8), recipe, chance.randint(1, 3), chance.randint(1, 4), seed, sorts)


def changed_begin(chance):
    """A begin with one or two of its numbers changed, or some of its list left out."""
    call = right_begin(chance)
    row = call[10:]
    for _ in range(chance.randint(1, 2)):
        place = chance.randrange(1, 9 + len(row))
        if place < 9:
            call[place] = chance.choice(EDGES)
        else:
            row[place - 9] = chance.choice(EDGES)
    if chance.random() < 0.3:
        row = (row * 7)[:chance.choice((0, 1, 2, 4, 191, 192, 193, 195))]
    return begin_with_row(call[1], call[2:6], call[6], call[7], call[8], row)


def right_pick(chance, table):
    waiting = [i for i in range(table.n) if table.row(i)]
    if not waiting:
        return late(0)
    i = chance.choice(waiting)
    if chance.random() < 0.2:
        return late(i)
    return pick(i, *chance.sample(range(len(table.row(i)[0][2])), table.due(i)))


def any_pick(chance):
    places = [chance.choice((0, 1, 2, 3, 4, 7, 19, 20, -1)) for _ in range(chance.randint(0, 4))]
    return pick(chance.choice((0, 1, 2, 3, 5, 7, 8, -1)), *places)


def next_call(chance, table):
    draw = chance.random()
    if draw < 0.6:
        return right_pick(chance, table)
    if draw < 0.65:
        return any_pick(chance)
    if draw < 0.66:
        return right_begin(chance)
    if draw < 0.68:
        return changed_begin(chance)
    if draw < 0.76:
        return chance.choice((waits(), stands()))
    call = chance.choice((late, see, see, pool, sizes, seen, seen))
    return call(chance.choice(EDGES) if draw > 0.98 else chance.randrange(max(1, table.n)))


class SecondWay(unittest.TestCase):
    def check(self, calls, expected, number):
        for call, found, wanted in zip(calls, ask(*calls), expected):
            if found != wanted:
                self.fail(f"line {number}: {call} answered {found}, not {wanted}")

    def test_whole_lines(self):
        for number in range(150):
            chance = random.Random(number)
            line = SecondLine()
            calls, expected = [], []
            while len(calls) < 300:
                begins = len(calls) == (number % 3)
                call = right_begin(chance) if begins else next_call(chance, line.table)
                calls.append(call)
                expected.append(line.answer(call))
            self.check(calls, expected, number)

    def test_begins(self):
        refused = {}
        for number in range(600):
            chance = random.Random(number)
            line = SecondLine()
            calls = [changed_begin(chance), stands(), see(0), see(1), seen(1)]
            expected = [line.answer(call) for call in calls]
            refused[expected[0][0]] = True
            self.check(calls, expected, number)
        self.assertEqual(sorted(refused), [-6, -1, 0])


if __name__ == "__main__":
    unittest.main()
