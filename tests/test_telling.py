"""see, pool, waits, sizes, stands and seen; and which seats all calls that tell of a seat take."""

import unittest

from helper import (
    LARGEST, ask, away, begin, colours, gone, last, late, one_class, pick, pool, see, seen, sizes, stands, truth, waits,
)

OF_A_SEAT = (see, pool, sizes, seen, gone, away, colours, truth)


class NoTable(unittest.TestCase):
    def test_ahead_of_the_first_begin(self):
        for call in OF_A_SEAT:
            for i in range(8):
                with self.subTest(call=call(i)):
                    self.assertEqual(last(call(i)), [-2])
        self.assertEqual(ask(waits(), stands()), [[0], [0, 0, 0, 1, 0, 0]])


class Seats(unittest.TestCase):
    def test_ranges(self):
        for call in OF_A_SEAT:
            for begun in ([], [begin(n=2)], [begin(n=8)]):
                for i in (-1, 8, LARGEST, -LARGEST):
                    with self.subTest(call=call(i), begun=len(begun)):
                        self.assertEqual(last(*begun, call(i)), [-1])

    def test_edges_of_each_table(self):
        for call in OF_A_SEAT:
            for n in range(2, 9):
                told = ask(begin(n=n), *[call(i) for i in range(8)])[1:]
                with self.subTest(call=call(0), n=n):
                    self.assertTrue(all(answer[0] == 0 for answer in told[:n]))
                    self.assertEqual(told[n:], [[-2]] * (8 - n))


class See(unittest.TestCase):
    def test_no_pack(self):
        told = ask(begin(), late(0), see(0), see(1), see(2), see(8))
        self.assertEqual(told[2:], [[-4], [0, 1, 0, 0, 0, 0], [-2], [-1]])

    def test_when_it_is_over(self):
        made = [begin(recipe=(1, 0, 0, 0)), late(0), late(1)]
        self.assertEqual(ask(*made, see(0), see(1), see(2), see(8))[3:], [[-4], [-4], [-2], [-1]])


class Pool(unittest.TestCase):
    def test_over_several_rounds(self):
        # The sheet with seed 0 is 2, 1, 0, 3.
        begun = begin(recipe=(2, 0, 0, 0), rounds=2, sorts=one_class(4))
        first_round = [pick(0, 1), pick(1, 1), late(0), late(1)]
        second_round = [pick(0, 1), late(1), late(0), late(1)]
        told = ask(begun, pool(0), *first_round, *second_round, pool(0), pool(1))
        self.assertEqual(told[1], [0])
        self.assertEqual(told[-2:], [[0, 1, 0, 1, 3], [0, 3, 2, 0, 2]])

    def test_stays_when_it_is_over(self):
        self.assertEqual(last(begin(recipe=(1, 0, 0, 0)), late(0), late(1), pool(1)), [0, 0])


class WaitsAndSizes(unittest.TestCase):
    def test_at_the_beginning(self):
        for n in (2, 8):
            told = ask(begin(n=n, recipe=(7, 0, 0, 0)), waits(), *[sizes(i) for i in range(n)])
            self.assertEqual(told[1:], [[0] + [1] * n] + [[0, 7]] * n)

    def test_none_and_several(self):
        begun = begin(n=3, recipe=(7, 0, 0, 0), at_a_time=3)
        told = ask(begun, late(0), late(2), late(0), waits(), sizes(0), sizes(1), sizes(2))
        self.assertEqual(told[4:], [[0, 0, 3, 0], [0], [0, 7, 4, 1], [0]])

    def test_over(self):
        told = ask(begin(recipe=(1, 0, 0, 0)), late(0), late(1), waits(), sizes(0), sizes(1))
        self.assertEqual(told[3:], [[0, 0, 0], [0], [0]])


class Stands(unittest.TestCase):
    def test_refused_picks_do_not_count(self):
        told = ask(begin(), late(0), late(0), pick(1, 3), pick(1, 20), late(2), pick(1, 2), stands())
        self.assertEqual(told[-1], [0, 2, 0, 0, 2, 6])

    def test_over(self):
        made = [begin(recipe=(1, 0, 0, 0), rounds=3)] + [late(0), late(1)] * 3
        self.assertEqual(last(*made, stands()), [0, 2, 3, 1, 6, 6])


class Seen(unittest.TestCase):
    # Seat 0 has the pack 2 1 0 3 2, seat 1 the pack 1 0 3 2 1 (the sheet is 2, 1, 0, 3).
    begun = begin(recipe=(5, 0, 0, 0), sorts=one_class(4))

    def test_the_first_pack(self):
        told = ask(self.begun, seen(0), seen(1))
        self.assertEqual(told[1:], [[0, 0, 1, 1, 1, 2, 2, 3, 1], [0, 0, 1, 1, 2, 2, 1, 3, 1]])

    def test_sorts_that_were_not_seen_are_left_out(self):
        begun = begin(recipe=(1, 0, 0, 0), sorts=one_class(4))
        self.assertEqual(ask(begun, seen(0), seen(1))[1:], [[0, 2, 1], [0, 1, 1]])

    def test_what_waits_behind_the_first_is_not_seen(self):
        told = ask(self.begun, pick(0, 1), seen(1), pick(1, 0), seen(1))
        self.assertEqual(told[2], [0, 0, 1, 1, 2, 2, 1, 3, 1])
        # Behind it came 2 0 3 2, and now it is first.
        self.assertEqual(told[4], [0, 0, 2, 1, 2, 2, 3, 3, 2])

    def test_a_pack_that_comes_to_an_empty_row_is_seen_at_once(self):
        told = ask(self.begun, late(0), seen(0), pick(1, 4), seen(0))
        self.assertEqual(told[2], [0, 0, 1, 1, 1, 2, 2, 3, 1])
        self.assertEqual(told[4], [0, 0, 2, 1, 2, 2, 3, 3, 2])

    def test_a_pack_that_comes_round_again_counts_once(self):
        made = [self.begun, late(0), late(1), late(0), late(1)]
        whole = [0, 0, 2, 1, 2, 2, 3, 3, 2]
        self.assertEqual(ask(*made, see(0), seen(0))[5:], [[0, 0, 2, 0, 3, 2], whole])
        self.assertEqual(last(*made, late(0), late(1), late(0), late(1), seen(0)), whole)
        # All that is left of it is taken and seen by seat 1 in the end.
        self.assertEqual(last(*made, *[late(0), late(1)] * 3, seen(0)), whole)

    def test_cards_of_one_sort_count_each(self):
        self.assertEqual(last(begin(recipe=(15, 0, 0, 0)), seen(0)), [0, 0, 15])
        self.assertEqual(ask(begin(recipe=(15, 0, 0, 0)), late(0), late(1), seen(0))[3], [0, 0, 29])

    def test_over_several_rounds(self):
        begun = begin(recipe=(2, 0, 0, 0), rounds=3, sorts=one_class(4))
        one_round = [late(0), late(1), late(0), late(1)]
        # Each round opens 2 1 and 0 3. Seat 0 sees its own pack, and of the other what is left.
        rounds = [seen(0), *one_round, seen(0), *one_round, seen(0)]
        told = ask(begun, seen(0), *one_round[:2], seen(0), *one_round[2:], *rounds)
        found = [told[place] for place in (1, 4, 7, 12, 17)]
        self.assertEqual(found, [
            [0, 1, 1, 2, 1],
            [0, 1, 1, 2, 1, 3, 1],
            [0, 1, 2, 2, 2, 3, 1],
            [0, 1, 3, 2, 3, 3, 2],
            [0, 1, 3, 2, 3, 3, 3],
        ])

    def test_the_least_sort_first(self):
        sorts = [(3 - c, 0, 1) for c in range(4)]
        told = last(begin(recipe=(3, 2, 1, 2), sorts=sorts), seen(0))
        self.assertEqual(told, [0, 0, 2, 1, 1, 2, 2, 3, 3])

    def test_does_not_shrink_by_taking(self):
        begun = begin(recipe=(1, 0, 0, 0), sorts=one_class(4))
        self.assertEqual(last(begun, late(0), late(1), seen(0)), [0, 2, 1])


if __name__ == "__main__":
    unittest.main()
