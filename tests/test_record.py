"""record: the picks as bytes."""

import random
import unittest

from helper import (
    SORTS, all_told_of, ask, back, begin, last, late, one_class, pick, play_on, pool, record, replay, second_line,
    stands, text_of, whole_drafts,
)

TWENTY = {"recipe": (15, 5, 0, 0), "sorts": [(0, 0, 1), (1, 0, 1)]}


def recorded(*calls):
    return text_of(last(*calls, record()))


class Bytes(unittest.TestCase):
    def test_ahead_of_the_first_begin(self):
        self.assertEqual(last(record()), [0])
        self.assertEqual(last(begin(n=1), late(0), record()), [0])

    def test_no_picks_yet(self):
        self.assertEqual(last(begin(), record()), [0])

    def test_one_pick(self):
        self.assertEqual(last(begin(), pick(1, 2), record()), [0, 49, 32, 50, 10])

    def test_places_of_one_and_of_two_digits(self):
        for place in range(20):
            with self.subTest(place=place):
                self.assertEqual(recorded(begin(**TWENTY), pick(0, place)), f"0 {place}\n")

    def test_each_seat(self):
        for i in range(8):
            self.assertEqual(recorded(begin(n=8), pick(i, 1)), f"{i} 1\n")

    def test_places_in_the_order_told(self):
        begun = begin(at_a_time=3, **TWENTY)
        self.assertEqual(recorded(begun, pick(1, 19, 0, 10), pick(0, 9, 11, 2)), "1 19 0 10\n0 9 11 2\n")
        self.assertEqual(recorded(begin(at_a_time=2, **TWENTY), pick(1, 7, 3)), "1 7 3\n")

    def test_late_with_the_places_it_took(self):
        for at_a_time, line in ((1, "0 0\n"), (2, "0 0 1\n"), (3, "0 0 1 2\n")):
            self.assertEqual(recorded(begin(at_a_time=at_a_time, **TWENTY), late(0)), line)

    def test_fewer_left_than_are_taken_at_a_time(self):
        begun = begin(recipe=(4, 0, 0, 0), at_a_time=3)
        self.assertEqual(recorded(begun, late(0), pick(1, 3, 2, 1), late(0), late(1)), "0 0 1 2\n1 3 2 1\n0 0\n1 0\n")

    def test_the_order_of_the_picks(self):
        made = [begin(n=3), late(2), late(0), pick(0, 1), pick(1, 2)]
        self.assertEqual(recorded(*made), "2 0\n0 0\n0 1\n1 2\n")


class Behind(unittest.TestCase):
    made = [begin(), pick(0, 2), late(1)]

    def test_refused_calls(self):
        refused = [pick(0, 5), pick(0, 20), pick(5, 0), pick(0, 0, 0), late(8), back(3), back(0), begin(n=9)]
        self.assertEqual(recorded(*self.made, *refused), "0 2\n1 0\n")
        self.assertEqual(recorded(begin(), late(0), late(0)), "0 0\n")

    def test_calls_that_tell(self):
        self.assertEqual(recorded(*self.made, *all_told_of(2)), "0 2\n1 0\n")

    def test_a_second_begin(self):
        self.assertEqual(recorded(*self.made, begin()), "")
        self.assertEqual(recorded(*self.made, begin(), late(1)), "1 0\n")

    def test_back(self):
        self.assertEqual(recorded(*self.made, back(1)), "0 2\n")
        self.assertEqual(recorded(*self.made, back(2)), "")
        self.assertEqual(recorded(*self.made, back(1), pick(1, 1)), "0 2\n1 1\n")

    def test_replay(self):
        self.assertEqual(recorded(*self.made, replay("1 1\n0 0\n1 1\n")), "1 1\n0 0\n1 1\n")
        self.assertEqual(recorded(*self.made, replay("")), "")
        self.assertEqual(recorded(*self.made, replay("1 1\n"), late(0)), "1 1\n0 0\n")

    def test_a_replay_that_changes_nothing(self):
        for given in ("0", "\n", "0 0\n0 0\n0 0\n", "5 0\n"):
            with self.subTest(given=given):
                self.assertEqual(recorded(*self.made, replay(given)), "0 2\n1 0\n")

    def test_rounds_and_the_end(self):
        begun = begin(recipe=(1, 0, 0, 0), rounds=2)
        made = [begun, late(1), late(0), late(0), late(1), late(0)]
        self.assertEqual(recorded(*made), "1 0\n0 0\n0 0\n1 0\n")


class Replayed(unittest.TestCase):
    """A record gives the same table again, and is told again byte by byte."""

    def test_whole_drafts(self):
        for table, seed in whole_drafts():
            begun = begin(seed=seed, sorts=SORTS, **table)
            line = second_line(begun)
            made = play_on(random.Random(seed), line)
            for length in (0, 1, len(made) // 2, len(made) - 1, len(made)):
                with self.subTest(table=table, seed=seed, length=length):
                    told = ask(begun, *made[:length], *all_told_of(table["n"]))[1 + length:]
                    text = text_of(told[-1])
                    self.assertEqual(text, "".join(line.record[:length]))
                    again = ask(begun, replay(text), *all_told_of(table["n"]))[1:]
                    self.assertEqual(again, [[0, 0]] + told)
                    # Nor does it matter what was picked ahead of it.
                    again = ask(begun, *made[-60:], replay(text), *all_told_of(table["n"]))
                    self.assertEqual(again[-len(told):], told)

    def test_lates_come_back_as_picks(self):
        begun = begin(n=3, recipe=(5, 0, 0, 0), at_a_time=2, rounds=2, sorts=one_class(9))
        made = [late(i) for i in (0, 1, 2) * 6]
        told = ask(begun, *made, *all_told_of(3))[19:]
        self.assertEqual(ask(begun, replay(text_of(told[-1])), *all_told_of(3))[2:], told)

    def test_picks_go_on_behind_it(self):
        begun = begin(n=3, recipe=(5, 0, 0, 0), rounds=2, sorts=one_class(9))
        first = [pick(0, 4), late(2), pick(1, 2), late(1)]
        behind = [pick(0, 1), late(2), pool(0), stands(), back(3), *all_told_of(3)]
        told = ask(begun, *first, *behind)[5:]
        self.assertEqual(ask(begun, replay("0 4\n2 0\n1 2\n1 0\n"), *behind)[2:], told)


if __name__ == "__main__":
    unittest.main()
