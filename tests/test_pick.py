"""pick and late: what is taken, and what is refused."""

import unittest

from helper import LARGEST, ask, begin, last, late, one_class, pick, pool, see, sizes, stands, told_of, waits

# With seed 0 the sheet of four sorts is 2, 1, 0, 3: seat 0 has the pack 2 1 0 3 2, seat 1 the pack 1 0 3 2 1.
FIVE = {"recipe": (5, 0, 0, 0), "seed": 0, "sorts": one_class(4)}


class Taking(unittest.TestCase):
    def test_one(self):
        told = ask(begin(**FIVE), pick(0, 3), pool(0), see(1), sizes(1), waits())
        self.assertEqual(told[1:], [[0, 3], [0, 3], [0, 1, 0, 1, 0, 3, 2, 1], [0, 5, 4], [0, 0, 2]])

    def test_each_single_place(self):
        for place, sort in enumerate((2, 1, 0, 3, 2)):
            rest = [2, 1, 0, 3, 2]
            rest.pop(place)
            with self.subTest(place=place):
                told = ask(begin(**FIVE), pick(0, place), late(1), see(1))
                self.assertEqual(told[1], [0, sort])
                self.assertEqual(told[3], [0, 0, 1] + rest)

    def test_the_order_of_the_places_told(self):
        begun = begin(at_a_time=3, **FIVE)
        for places, sorts in (((1, 2, 3), [1, 0, 3]), ((3, 2, 1), [3, 0, 1]), ((2, 4, 0), [0, 2, 2])):
            with self.subTest(places=places):
                told = ask(begun, pick(0, *places), pool(0))
                self.assertEqual(told[1:], [[0] + sorts, [0] + sorts])

    def test_what_is_left_keeps_its_order(self):
        told = ask(begin(at_a_time=2, **FIVE), pick(0, 3, 1), pick(1, 0, 4), see(0), see(1))
        self.assertEqual(told[3:], [[0, 1, 1, 0, 3, 2], [0, 0, 1, 2, 0, 2]])

    def test_the_pool_grows_at_its_end(self):
        told = ask(begin(**FIVE), pick(0, 3), pick(1, 4), pick(0, 0), pick(0, 0), pool(0), pool(1))
        self.assertEqual(told[4], [-4])
        self.assertEqual(told[5:], [[0, 3, 1], [0, 1]])

    def test_fewer_left_than_are_taken_at_a_time(self):
        # Five cards, three at a time: the second seat takes just the two that are left.
        begun = begin(at_a_time=3, **FIVE)
        made = [begun, pick(0, 0, 1, 2), pick(1, 0, 1, 2)]
        for wrong in (pick(1), pick(1, 0), pick(1, 0, 1, 2), pick(1, 0, 2), pick(1, 1, 1)):
            with self.subTest(wrong=wrong):
                self.assertEqual(last(*made, wrong), [-5])
        self.assertEqual(last(*made, pick(1, 1, 0)), [0, 2, 3])
        self.assertEqual(last(*made, late(1)), [0, 3, 2])

    def test_a_pack_smaller_than_are_taken_at_a_time(self):
        begun = begin(recipe=(2, 0, 0, 0), at_a_time=3, sorts=one_class(4))
        told = ask(begun, pick(0, 0, 1, 2), pick(0, 1, 0), pick(0, 0, 1), late(1), stands())
        self.assertEqual(told[1:], [[-5], [0, 1, 2], [-4], [0, 0, 3], [0, 2, 1, 1, 2, 4]])

    def test_a_pack_of_one_card(self):
        for at_a_time in (1, 2, 3):
            begun = begin(recipe=(1, 0, 0, 0), at_a_time=at_a_time, rounds=2, sorts=one_class(4))
            told = ask(begun, pick(0, 1), pick(0, 0), pick(1, 0), pick(1, 0), pick(0, 0), stands())
            self.assertEqual(told[1:], [[-5], [0, 2], [0, 1], [0, 3], [0, 0], [0, 2, 2, 1, 4, 4]])

    def test_the_largest_place(self):
        sorts = [(0, 0, 1), (1, 0, 1), (2, 0, 1)]
        begun = begin(recipe=(15, 4, 1, 0), sorts=sorts)
        self.assertEqual(ask(begun, pick(0, 19), pick(1, 18))[1:], [[0, 2], [0, 1]])


class Late(unittest.TestCase):
    def test_beside_the_pick_of_the_first_places(self):
        for at_a_time in (1, 2, 3):
            for size in range(1, 8):
                begun = begin(n=3, recipe=(size, 0, 0, 0), at_a_time=at_a_time, rounds=2, seed=6, sorts=one_class(9))
                left = [size] * 3
                by_late, by_pick = [], []
                while left[0] > 0:
                    due = min(at_a_time, left[0])
                    left = [size_now - due for size_now in left]
                    by_late += [late(0), late(1), late(2)]
                    by_pick += [pick(i, *range(due)) for i in range(3)]
                with self.subTest(at_a_time=at_a_time, size=size):
                    self.assertEqual(ask(begun, *by_late, *told_of(3)), ask(begun, *by_pick, *told_of(3)))

    def test_answers_the_sorts_in_order(self):
        self.assertEqual(ask(begin(at_a_time=3, **FIVE), late(0), late(1))[1:], [[0, 2, 1, 0], [0, 1, 0, 3]])


class WrongPlaces(unittest.TestCase):
    def test_too_few_and_too_many(self):
        for at_a_time in (1, 2, 3):
            for how_many in range(4):
                answer = last(begin(at_a_time=at_a_time, **FIVE), pick(0, *range(how_many)))
                with self.subTest(at_a_time=at_a_time, how_many=how_many):
                    self.assertEqual(answer, [0, 2, 1, 0][:1 + how_many] if how_many == at_a_time else [-5])

    def test_doubled(self):
        for places in ((0, 0), (4, 4)):
            self.assertEqual(last(begin(at_a_time=2, **FIVE), pick(0, *places)), [-5])
        for places in ((1, 1, 2), (1, 2, 1), (2, 1, 1), (3, 3, 3)):
            self.assertEqual(last(begin(at_a_time=3, **FIVE), pick(0, *places)), [-5])

    def test_no_place_of_the_pack(self):
        for place, answer in ((4, [0, 2]), (5, [-5]), (19, [-5])):
            self.assertEqual(last(begin(**FIVE), pick(0, place)), answer)
        for places in ((5, 0, 1), (0, 5, 1), (0, 1, 5)):
            self.assertEqual(last(begin(at_a_time=3, **FIVE), pick(0, *places)), [-5])

    def test_out_of_range(self):
        for place in (20, -1, LARGEST, -LARGEST):
            self.assertEqual(last(begin(**FIVE), pick(0, place)), [-1])
            self.assertEqual(last(begin(at_a_time=2, **FIVE), pick(0, 0, place)), [-1])

    def test_a_list_that_is_too_long(self):
        for length in (4, 5, 20, 15900):
            with self.subTest(length=length):
                places = [place % 5 for place in range(length)]
                self.assertEqual(last(begin(at_a_time=3, **FIVE), pick(0, *places)), [-1])


class WrongSeat(unittest.TestCase):
    def test_ranges(self):
        for n in (2, 7, 8):
            for i in (-1, 8, LARGEST, -LARGEST):
                with self.subTest(n=n, i=i):
                    self.assertEqual(ask(begin(n=n), pick(i, 0), late(i))[1:], [[-1], [-1]])

    def test_the_last_seat(self):
        for n in range(2, 9):
            told = ask(begin(n=n), pick(n - 1, 0), late(n - 2))
            self.assertEqual(told[1:], [[0, 0], [0, 0]])

    def test_seats_that_there_are_not(self):
        for n in range(2, 8):
            for i in range(n, 8):
                with self.subTest(n=n, i=i):
                    self.assertEqual(ask(begin(n=n), pick(i, 0), late(i))[1:], [[-2], [-2]])


class NoPackWaits(unittest.TestCase):
    def test_until_the_neighbour_has_taken(self):
        told = ask(begin(**FIVE), late(0), pick(0, 0), late(0), late(1), pick(0, 0))
        self.assertEqual(told[1:], [[0, 2], [-4], [-4], [0, 1], [0, 0]])

    def test_packs_pile_up_before_a_slow_seat(self):
        made = [begin(n=3, recipe=(3, 0, 0, 0)), late(0), late(2), late(0), waits()]
        told = ask(*made, late(0), late(2), late(1), waits())
        self.assertEqual(told[4], [0, 0, 3, 0])
        self.assertEqual(told[5:7], [[-4], [-4]])
        self.assertEqual(told[8], [0, 0, 2, 1])


class Over(unittest.TestCase):
    made = [begin(recipe=(1, 0, 0, 0)), late(0), late(1)]

    def test_pick_and_late(self):
        self.assertEqual(ask(*self.made, pick(0, 0), late(0), pick(1, 0), late(1))[3:], [[-3]] * 4)

    def test_only_when_the_last_pack_is_empty(self):
        self.assertEqual(ask(self.made[0], late(0), late(0), late(1), late(0))[1:], [[0, 0], [-4], [0, 0], [-3]])

    def test_a_new_begin_ends_it(self):
        self.assertEqual(last(*self.made, self.made[0], late(1)), [0, 0])


class SeveralDue(unittest.TestCase):
    def test_no_table(self):
        told = ask(pick(0, 0), pick(0), pick(0, 0, 0), pick(7, 0), pick(8, 0), pick(0, 20), pick(0, 0, 1, 2, 3))
        self.assertEqual(told, [[-2], [-2], [-2], [-2], [-1], [-1], [-1]])
        self.assertEqual(ask(late(0), late(7), late(8), late(-1)), [[-2], [-2], [-1], [-1]])

    def test_a_wrong_number_beside_all_others(self):
        over = Over.made
        waiting = [begin(**FIVE), late(0)]
        for made in (over, waiting):
            for wrong in (pick(0, 20), pick(0, -1), pick(0, 0, 1, 2, 3), pick(5, 20), pick(8, 0), pick(-1)):
                with self.subTest(made=len(made), wrong=wrong):
                    self.assertEqual(last(*made, wrong), [-1])

    def test_no_such_seat_beside_over_and_wrong_places(self):
        self.assertEqual(ask(*Over.made, pick(2, 0), pick(2, 0, 0), late(2))[3:], [[-2]] * 3)
        self.assertEqual(ask(begin(**FIVE), pick(2), late(2))[1:], [[-2]] * 2)

    def test_over_beside_no_pack_and_wrong_places(self):
        self.assertEqual(ask(*Over.made, pick(0), pick(0, 1, 1), pick(0, 19))[3:], [[-3]] * 3)

    def test_no_pack_beside_wrong_places(self):
        self.assertEqual(ask(begin(**FIVE), late(0), pick(0), pick(0, 1, 1), pick(0, 19))[2:], [[-4]] * 3)


if __name__ == "__main__":
    unittest.main()
