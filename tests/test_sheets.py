"""The mixing of the sheets, and how packs are filled from them."""

import unittest

from helper import ask, begin, chance_after, late, one_class, second_sheets, see
from packdraft.sheets import Sort, mixed_sheets


def mixed(sorts, seed):
    return mixed_sheets([Sort(*each) for each in sorts], seed)


class WorkedOutByHand(unittest.TestCase):
    # The chance from seed 0 on, divided by 8589934592 and rounded down:
    # 167951807, 218396424, 1299921937, 861605236, 823830125, ...
    # from seed 1: 908834774, 1093944153, 1392341196, ...
    # from seed 1000000000000000000: 872377128, 1395147335, 871272150, ...

    def test_four_cards(self):
        # i = 3: 167951807 mod 4 = 3; i = 2: 218396424 mod 3 = 0; i = 1: 1299921937 mod 2 = 1.
        self.assertEqual(mixed(one_class(4), 0), [[2, 1, 0, 3], [], [], []])
        # 908834774 mod 4 = 2; 1093944153 mod 3 = 0; 1392341196 mod 2 = 0.
        self.assertEqual(mixed(one_class(4), 1), [[1, 3, 0, 2], [], [], []])
        # 872377128 mod 4 = 0; 1395147335 mod 3 = 2; 871272150 mod 2 = 0.
        self.assertEqual(mixed(one_class(4), 10 ** 18), [[1, 3, 2, 0], [], [], []])

    def test_copies_lie_side_by_side_ahead_of_the_mixing(self):
        self.assertEqual(mixed([(0, 0, 2), (0, 0, 1), (0, 0, 1)], 1), [[0, 2, 0, 1], [], [], []])

    def test_the_chance_goes_on_from_sheet_to_sheet(self):
        # A sheet of one card and one of none use no chance; class 3 goes on with
        # 861605236 mod 3 = 1, 823830125 mod 2 = 1.
        sorts = one_class(4) + [(1, 0, 1)] + [(3, 0, 1)] * 3
        self.assertEqual(mixed(sorts, 0), [[2, 1, 0, 3], [4], [], [5, 7, 6]])

    def test_the_classes_come_in_order_whatever_the_order_of_sorts(self):
        sorts = [(3, 0, 1)] * 3 + [(1, 0, 1)] + one_class(4)
        self.assertEqual(mixed(sorts, 0), [[6, 5, 4, 7], [3], [], [0, 2, 1]])

    def test_no_card_and_one_card(self):
        self.assertEqual(mixed([], 5), [[], [], [], []])
        self.assertEqual(mixed([(2, 0, 1)], 5), [[], [], [0], []])

    def test_seen_through_the_calls(self):
        sorts = one_class(4) + [(1, 0, 1)] + [(3, 0, 1)] * 3
        calls = begin(n=2, recipe=(2, 1, 0, 1), rounds=1, seed=0, sorts=sorts)
        self.assertEqual(ask(calls, see(0), see(1)), [[0, 4], [0, 0, 0, 2, 1, 4, 5], [0, 1, 0, 0, 3, 4, 7]])


class ASecondWay(unittest.TestCase):
    def test_the_second_way_itself(self):
        self.assertEqual(chance_after(0, 1), 1442695040888963407)
        self.assertEqual(chance_after(0, 3), 11166244414315200793)
        self.assertEqual(second_sheets(one_class(4), 1)[0], [1, 3, 0, 2])

    def test_many_sheets(self):
        makes = [
            one_class(1, 20),
            one_class(64, 3),
            [(k % 4, 0, 1 + k % 5) for k in range(40)],
            [(3 - k % 4, 0, 20) for k in range(16)],
            [(1, 0, 2), (3, 0, 1), (1, 0, 1), (3, 0, 4)],
            [(2, 0, 1), (0, 0, 1), (3, 0, 2), (0, 0, 1)],
        ]
        for sorts in makes:
            for seed in (0, 1, 2, 12345678901234567, 10 ** 18 - 1, 10 ** 18):
                with self.subTest(sorts=len(sorts), seed=seed):
                    self.assertEqual(mixed(sorts, seed), second_sheets(sorts, seed))

    def test_seen_through_the_calls(self):
        sorts = one_class(64)
        for seed in (3, 10 ** 18):
            sheet = second_sheets(sorts, seed)[0]
            begun = begin(n=8, recipe=(8, 0, 0, 0), seed=seed, sorts=sorts)
            told = ask(begun, *[see(i) for i in range(8)])[1:]
            self.assertEqual([sort for answer in told for sort in answer[3:]], sheet)


class Filling(unittest.TestCase):
    def test_classes_in_order_within_a_pack(self):
        sorts = [(3, 0, 1), (2, 0, 1), (1, 0, 1), (0, 0, 1)]
        begun = begin(recipe=(1, 2, 1, 3), sorts=sorts)
        self.assertEqual(ask(begun, see(0))[1], [0, 0, 0, 3, 2, 2, 1, 0, 0, 0])

    def test_a_class_that_the_recipe_leaves_out(self):
        sorts = [(0, 0, 1), (1, 0, 5), (2, 0, 1)]
        self.assertEqual(ask(begin(recipe=(1, 0, 2, 0), sorts=sorts), see(1))[1], [0, 1, 0, 0, 2, 2])

    def test_a_sheet_begins_again_behind_its_last_card(self):
        # The sheet is 2, 1, 0, 3 (worked out above); two packs of five go through it twice and a half.
        begun = begin(n=2, recipe=(5, 0, 0, 0), seed=0, sorts=one_class(4))
        told = ask(begun, see(0), see(1))
        self.assertEqual(told[1:], [[0, 0, 0, 2, 1, 0, 3, 2], [0, 1, 0, 1, 0, 3, 2, 1]])

    def test_a_pack_larger_than_its_sheet_several_times(self):
        begun = begin(n=2, recipe=(9, 0, 0, 0), seed=0, sorts=one_class(4))
        self.assertEqual(ask(begun, see(0))[1][3:], [2, 1, 0, 3, 2, 1, 0, 3, 2])

    def test_the_sheets_go_on_from_round_to_round(self):
        begun = begin(n=2, recipe=(1, 0, 0, 1), at_a_time=2, rounds=3, seed=0, sorts=one_class(4) + [(3, 0, 1)] * 3)
        # Class 0: 2, 1, 0, 3. Class 3 goes on with 861605236 mod 3 = 1, 823830125 mod 2 = 1: 4, 6, 5.
        told = ask(begun, late(0), late(1), late(0), late(1), late(0), late(1))[1:]
        self.assertEqual(told, [[0, 2, 4], [0, 1, 6], [0, 0, 5], [0, 3, 4], [0, 2, 6], [0, 1, 5]])


if __name__ == "__main__":
    unittest.main()
