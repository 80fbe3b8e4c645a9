"""truth and sheet: what no seat can tell."""

import random
import unittest

from helper import (
    LARGEST, SORTS, ask, back, begin, last, late, one_class, pick, play_on, second_line, second_sheets, see, sheet,
    sizes, truth, waits, whole_drafts,
)

# With seed 0 the sheet of four sorts is 2, 1, 0, 3: seat 0 has the pack 2 1 0 3 2, seat 1 the pack 1 0 3 2 1.
FIVE = begin(recipe=(5, 0, 0, 0), sorts=one_class(4))


class Truth(unittest.TestCase):
    def test_at_the_beginning(self):
        told = ask(FIVE, truth(0), truth(1))
        self.assertEqual(told[1:], [[0, 0, 0, 5, 2, 1, 0, 3, 2], [0, 1, 0, 5, 1, 0, 3, 2, 1]])

    def test_an_empty_row(self):
        self.assertEqual(last(FIVE, late(0), truth(0)), [0])

    def test_a_row_of_several_packs(self):
        told = ask(FIVE, pick(0, 3), truth(1), late(1), truth(1), truth(0))
        self.assertEqual(told[2], [0, 1, 0, 5, 1, 0, 3, 2, 1, 0, 1, 4, 2, 1, 0, 2])
        self.assertEqual(told[4:], [[0, 0, 1, 4, 2, 1, 0, 2], [0, 1, 1, 4, 0, 3, 2, 1]])

    def test_packs_that_were_passed_several_times(self):
        begun = begin(n=3, recipe=(4, 0, 0, 0), sorts=one_class(1))
        told = ask(begun, late(0), late(2), late(0), late(1), truth(1), truth(2))
        self.assertEqual(told[5:], [[0, 0, 1, 3, 0, 0, 0, 2, 2, 2, 0, 0], [0, 1, 1, 3, 0, 0, 0]])

    def test_the_second_round(self):
        begun = begin(n=3, recipe=(1, 0, 0, 0), rounds=2, sorts=one_class(4))
        self.assertEqual(last(begun, late(0), late(1), late(2), truth(2)), [0, 2, 0, 1, 1])

    def test_when_it_is_over(self):
        made = [begin(recipe=(1, 0, 0, 0)), late(0), late(1)]
        self.assertEqual(ask(*made, truth(0), truth(1), truth(2), truth(8))[3:], [[0], [0], [-2], [-1]])

    def test_beside_waits_sizes_and_see(self):
        for table, seed in whole_drafts():
            begun = begin(seed=seed, sorts=SORTS, **table)
            made = play_on(random.Random(seed), second_line(begun))
            for length in (0, len(made) // 3, len(made) // 2):
                for i in range(table["n"]):
                    told = ask(begun, *made[:length], waits(), sizes(i), see(i), truth(i))[-4:]
                    packs = self.packs_in(told[3])
                    with self.subTest(table=table, seed=seed, length=length, i=i):
                        self.assertEqual(len(packs), told[0][1 + i])
                        self.assertEqual([len(sorts) for _, _, sorts in packs], told[1][1:])
                        first = [0, packs[0][0], packs[0][1], *packs[0][2]] if packs else [-4]
                        self.assertEqual(told[2], first)

    def packs_in(self, answer):
        packs, rest = [], answer[1:]
        while rest:
            end = 3 + rest[2]
            packs.append((rest[0], rest[1], rest[3:end]))
            rest = rest[end:]
        return packs


class Sheet(unittest.TestCase):
    def test_each_class(self):
        sorts = [(3, 0, 2), (1, 0, 1), (3, 0, 1), (0, 0, 3), (2, 0, 1), (1, 0, 1)]
        told = ask(begin(seed=77, sorts=sorts), *[sheet(c) for c in range(4)])[1:]
        self.assertEqual(told, [[0, *each] for each in second_sheets(sorts, 77)])
        self.assertEqual([sorted(answer[1:]) for answer in told], [[3, 3, 3], [1, 5], [4], [0, 0, 2]])

    def test_worked_by_hand(self):
        self.assertEqual(last(begin(sorts=one_class(4)), sheet(0)), [0, 2, 1, 0, 3])

    def test_the_longest(self):
        sorts = [(1, 0, 20)] * 63 + [(0, 0, 1)]
        told = ask(begin(seed=LARGEST, sorts=sorts), sheet(1), sheet(0))[1:]
        self.assertEqual(told, [[0, *second_sheets(sorts, LARGEST)[1]], [0, 63]])
        self.assertEqual(len(told[0]), 1261)

    def test_a_class_without_sorts(self):
        self.assertEqual(ask(begin(), sheet(0), sheet(1), sheet(2), sheet(3))[1:], [[0, 0], [0], [0], [0]])
        only_last = begin(recipe=(0, 0, 0, 1), sorts=[(3, 0, 2)])
        self.assertEqual(ask(only_last, sheet(0), sheet(1), sheet(2), sheet(3))[1:], [[0], [0], [0], [0, 0, 0]])

    def test_ahead_of_the_first_begin(self):
        self.assertEqual(ask(*[sheet(c) for c in range(4)]), [[0]] * 4)
        self.assertEqual(ask(begin(n=9), sheet(0))[1], [0])

    def test_range(self):
        for made in ([], [begin()]):
            for c in (-1, 4, 7, LARGEST, -LARGEST):
                with self.subTest(made=len(made), c=c):
                    self.assertEqual(last(*made, sheet(c)), [-1])

    def test_stays_as_it_was_mixed(self):
        begun = begin(recipe=(3, 2, 0, 0), rounds=2, seed=4, sorts=[(k % 2, 0, 2) for k in range(6)])
        first = ask(begun, sheet(0), sheet(1))[1:]
        takes = [late(0), late(1)] * 10
        for length in (1, 10, 11, 20):
            self.assertEqual(ask(begun, *takes[:length], sheet(0), sheet(1))[-2:], first)
        self.assertEqual(ask(begun, *takes, back(7), sheet(0), sheet(1))[-2:], first)

    def test_a_second_begin_has_its_own(self):
        told = ask(begin(sorts=one_class(4)), begin(recipe=(0, 1, 0, 0), sorts=[(1, 0, 1)]), sheet(0), sheet(1))
        self.assertEqual(told[2:], [[0], [0, 0]])


if __name__ == "__main__":
    unittest.main()
