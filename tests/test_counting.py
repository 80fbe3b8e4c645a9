"""colours and holders: counts over the pools."""

import random
import unittest

from helper import (
    LARGEST, SORTS, ask, back, begin, colours, holders, last, late, one_class, pick, play_on, pool, second_line,
    whole_drafts,
)

# One sort of each class, so that a recipe says which cards come: 3, 2, 1 and 4 of the sorts 0 to 3.
FOUR = {"recipe": (3, 2, 1, 4), "at_a_time": 3}


def four(first, second, third, fourth):
    return begin(sorts=[(0, first, 1), (1, second, 1), (2, third, 1), (3, fourth, 1)], **FOUR)


class Colours(unittest.TestCase):
    def test_none_taken(self):
        self.assertEqual(last(four(15, 15, 15, 15), colours(0)), [0, 0, 0, 0, 0])

    def test_each_value_stands_at_its_own_place(self):
        taken = pick(0, 0, 3, 5)
        self.assertEqual(last(four(1, 2, 4, 8), taken, colours(0)), [0, 1, 1, 1, 0])
        self.assertEqual(last(four(8, 4, 2, 1), taken, colours(0)), [0, 0, 1, 1, 1])
        self.assertEqual(last(four(1, 2, 4, 8), pick(0, 9, 8, 7), colours(0)), [0, 0, 0, 0, 3])

    def test_each_colour_of_a_card_with_several(self):
        for number in range(16):
            bits = [number % 2, number // 2 % 2, number // 4 % 2, number // 8]
            with self.subTest(number=number):
                told = ask(four(number, 0, 0, 0), late(0), colours(0), colours(1))
                self.assertEqual(told[2:], [[0] + [3 * bit for bit in bits], [0] * 5])

    def test_cards_without_colour_are_not_counted(self):
        self.assertEqual(last(four(0, 3, 0, 15), pick(0, 0, 5, 3), colours(0)), [0, 1, 1, 0, 0])

    def test_of_its_own_pool_alone(self):
        made = [four(1, 2, 4, 8), pick(0, 0, 1, 2), pick(1, 6, 7, 8)]
        self.assertEqual(ask(*made, colours(0), colours(1))[3:], [[0, 3, 0, 0, 0], [0, 0, 0, 0, 3]])

    def test_after_back(self):
        made = [four(1, 2, 4, 8), pick(0, 0, 3, 5), pick(1, 6, 7, 8)]
        self.assertEqual(ask(*made, back(1), colours(0), colours(1))[4:], [[0, 1, 1, 1, 0], [0] * 5])


class Holders(unittest.TestCase):
    def test_none_taken(self):
        for n in (2, 8):
            self.assertEqual(last(begin(n=n), holders(0)), [0] * (1 + n))

    def test_each_seat_in_order(self):
        made = [four(0, 0, 0, 0), pick(0, 0, 3, 1), pick(1, 6, 5, 4)]
        told = ask(*made, *[holders(k) for k in range(4)])[3:]
        self.assertEqual(told, [[0, 2, 0], [0, 1, 1], [0, 0, 1], [0, 0, 1]])

    def test_range(self):
        for made in ([], [begin()], [begin(sorts=one_class(64))]):
            for k in (-1, 64, LARGEST, -LARGEST):
                with self.subTest(made=len(made), k=k):
                    self.assertEqual(last(*made, holders(k)), [-1])

    def test_no_such_sort(self):
        for how_many in (1, 2, 63, 64):
            told = ask(begin(sorts=one_class(how_many)), *[holders(k) for k in range(64)])[1:]
            with self.subTest(how_many=how_many):
                self.assertEqual(told, [[0, 0, 0]] * how_many + [[-2]] * (64 - how_many))

    def test_ahead_of_the_first_begin(self):
        self.assertEqual(ask(holders(0), holders(63), holders(64)), [[-2], [-2], [-1]])
        self.assertEqual(ask(begin(n=1), holders(0))[1], [-2])

    def test_a_second_begin_has_its_own_sorts(self):
        told = ask(begin(sorts=one_class(5)), begin(sorts=one_class(3)), holders(2), holders(3), holders(4))
        self.assertEqual(told[2:], [[0, 0, 0], [-2], [-2]])
        told = ask(begin(sorts=one_class(3)), begin(n=9, sorts=one_class(5)), holders(2), holders(3))
        self.assertEqual(told[2:], [[0, 0, 0], [-2]])

    def test_a_sort_of_a_class_that_the_recipe_does_not_use(self):
        self.assertEqual(last(begin(sorts=[(0, 0, 1), (3, 0, 1)]), late(0), holders(1)), [0, 0, 0])

    def test_when_it_is_over(self):
        made = [begin(recipe=(1, 0, 0, 0)), late(0), late(1)]
        self.assertEqual(ask(*made, holders(0), holders(1))[3:], [[0, 1, 1], [-2]])


class AgainstThePools(unittest.TestCase):
    def test_whole_drafts(self):
        for table, seed in whole_drafts():
            begun = begin(seed=seed, sorts=SORTS, **table)
            made = play_on(random.Random(seed), second_line(begun))
            seats = range(table["n"])
            for length in (1, len(made) // 2, len(made)):
                calls = [begun, *made[:length]]
                pools = [answer[1:] for answer in ask(*calls, *[pool(i) for i in seats])[1 + length:]]
                with self.subTest(table=table, seed=seed, length=length):
                    told = ask(*calls, *[colours(i) for i in seats])[1 + length:]
                    for i in seats:
                        held = ["{:04b}".format(SORTS[k][1])[::-1] for k in pools[i]]
                        self.assertEqual(told[i], [0] + [sum(each[c] == "1" for each in held) for c in range(4)])
                    told = ask(*calls, *[holders(k) for k in range(len(SORTS))])[1 + length:]
                    for k in range(len(SORTS)):
                        self.assertEqual(told[k], [0] + [len([each for each in held if each == k]) for held in pools])


if __name__ == "__main__":
    unittest.main()
