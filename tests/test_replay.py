"""replay: which bytes are a record, and which picks it may make."""

import unittest

from helper import (
    LARGEST, all_told_of, ask, back, begin, last, late, one_class, pick, pool, record, replay, second_line, stands,
    text_of,
)

# Two seats; packs of 12 cards; three at a time.
BEGUN = begin(recipe=(12, 0, 0, 0), at_a_time=3, seed=6, sorts=one_class(24))
MADE = [BEGUN, pick(0, 11, 0, 10), late(1), pick(1, 0, 4, 3)]
TOLD = ask(*MADE, *all_told_of(2))[4:]

ONE = begin(recipe=(12, 0, 0, 0), seed=6, sorts=one_class(24))


class Unchanged(unittest.TestCase):
    def check(self, given, answer):
        """After a replay that is not accepted nothing has changed."""
        with self.subTest(given=given):
            self.assertEqual(ask(*MADE, replay(given), *all_told_of(2))[4:], [answer] + TOLD)


class Accepted(unittest.TestCase):
    def test_an_empty_list(self):
        fresh = ask(BEGUN, *all_told_of(2))[1:]
        self.assertEqual(ask(BEGUN, replay(""), *all_told_of(2))[1:], [[0, 0]] + fresh)
        self.assertEqual(ask(*MADE, replay(""), *all_told_of(2))[4:], [[0, 0]] + fresh)

    def test_a_shorter_record_than_the_picks_made(self):
        told = ask(*MADE, replay("0 11 0 10\n"), *all_told_of(2))[4:]
        self.assertEqual(told, [[0, 0]] + ask(*MADE[:2], *all_told_of(2))[2:])

    def test_more_picks_than_were_made(self):
        told = ask(*MADE, replay("0 11 0 10\n1 0 1 2\n1 0 4 3\n0 8 7 6\n"), *all_told_of(2))[4:]
        self.assertEqual(told, [[0, 0]] + ask(*MADE, pick(0, 8, 7, 6), *all_told_of(2))[5:])

    def test_other_picks_than_were_made(self):
        told = ask(*MADE, replay("1 3 2 1\n0 0 1 2\n"), *all_told_of(2))[4:]
        self.assertEqual(told, [[0, 0]] + ask(BEGUN, pick(1, 3, 2, 1), late(0), *all_told_of(2))[3:])

    def test_twice(self):
        text = "0 11 0 10\n1 0 1 2\n1 0 4 3\n"
        self.assertEqual(ask(BEGUN, replay(text), replay(text), *all_told_of(2))[2:], [[0, 0]] + TOLD)

    def test_the_table_of_the_last_begin(self):
        told = ask(ONE, late(0), *MADE, replay("0 11 0 10\n1 0 1 2\n1 0 4 3\n"), *all_told_of(2))[6:]
        self.assertEqual(told, [[0, 0]] + TOLD)
        told = ask(*MADE, begin(n=9), replay("0 11 0 10\n1 0 1 2\n1 0 4 3\n"), *all_told_of(2))[5:]
        self.assertEqual(told, [[0, 0]] + TOLD)

    def test_when_the_drafting_is_over(self):
        begun = begin(recipe=(2, 0, 0, 0), sorts=one_class(4))
        made = [begun, late(0), late(1), late(0), late(1)]
        told = ask(*made, stands(), replay("0 1\n"), stands(), pool(0), late(1))[5:]
        self.assertEqual(told, [[0, 2, 1, 1, 4, 4], [0, 0], [0, 2, 0, 0, 1, 4], [0, 1], [0, 0]])
        # Its last pick ends the drafting.
        self.assertEqual(ask(begun, replay("0 1\n1 0\n0 0\n1 0\n"), stands())[1:], [[0, 0], [0, 2, 1, 1, 4, 4]])

    def test_over_a_rounds_end(self):
        begun = begin(recipe=(1, 0, 0, 0), rounds=3, sorts=one_class(4))
        told = ask(begun, replay("1 0\n0 0\n0 0\n"), stands(), pool(0), pool(1))[1:]
        self.assertEqual(told, [[0, 0], [0, 2, 1, 0, 3, 4], [0, 2, 0], [0, 1]])

    def test_each_number_of_two_digits(self):
        twenty = begin(recipe=(15, 5, 0, 0), sorts=[(0, 0, 1), (1, 0, 1)])
        for place in range(20):
            self.assertEqual(last(twenty, replay(f"0 {place}\n")), [0, 0])

    def test_a_seat_that_takes_of_three_packs_one_behind_another(self):
        begun = begin(n=3, recipe=(3, 0, 0, 0))
        self.assertEqual(last(begun, replay("0 0\n2 0\n0 0\n1 2\n1 1\n1 0\n")), [0, 0])
        self.assertEqual(last(begun, replay("0 0\n2 0\n0 0\n1 2\n1 1\n1 1\n")), [0, 2, 6])


class WrongLines(Unchanged):
    def test_a_line_that_does_not_end(self):
        for given in ("0 0 1 2", "0", "x", " ", "\r", "0 0 1 2\r"):
            self.check(given, [0, 1, 1])
        self.check("0 0 1 2\n1 0 1 2", [0, 1, 2])
        self.check("0 0 1 2\n1 0 1 2\n ", [0, 1, 3])
        self.check("0 0 1 2\n1 0 1 2\n1", [0, 1, 3])

    def test_an_empty_line(self):
        self.check("\n", [0, 1, 1])
        self.check("\n\n", [0, 1, 1])
        self.check("\n0 0 1 2\n", [0, 1, 1])
        self.check("0 0 1 2\n\n1 0 1 2\n", [0, 1, 2])
        self.check("0 0 1 2\n1 0 1 2\n\n", [0, 1, 3])

    def test_a_zero_in_front(self):
        for line in ("00 0 1 2", "01 0 1 2", "0 00 1 2", "0 01 1 2", "0 0 1 02", "0 0 09 2", "0 0 1 00"):
            self.check(line + "\n", [0, 1, 1])

    def test_three_digits(self):
        for line in ("000 0 1 2", "100 0 1 2", "0 100 1 2", "0 0 1 111", "0 0 1 002", "0 0 1 99999999999999999999"):
            self.check(line + "\n", [0, 1, 1])

    def test_blanks(self):
        for line in (" 0 0 1 2", "0 0 1 2 ", "0  0 1 2", "0 0 1  2", " ", "  ", "0 ", " 0", "0 0 ", " 0 0", "0  0"):
            self.check(line + "\n", [0, 1, 1])

    def test_one_number_alone(self):
        for line in ("0", "1", "7", "10", "99"):
            self.check(line + "\n", [0, 1, 1])

    def test_four_places_and_more(self):
        for line in ("0 0 1 2 3", "0 0 1 2 3 4", "0 0 0 0 0", "0 " * 100 + "0"):
            self.check(line + "\n", [0, 1, 1])

    def test_one_two_and_three_places_are_a_picks_line(self):
        for line in ("0 0", "0 0 1", "0 0 0 0", "99 99 99 99", "10 10", "0 10 0"):
            # Wrong picks, but right lines: the fault of the line behind them is told.
            self.check(line + "\n\n", [0, 1, 2])

    def test_bytes_that_are_no_digit(self):
        for byte in [*range(10), *range(11, 32), *range(33, 48), *range(58, 256)]:
            sign = bytes([byte]).decode("latin-1")
            self.check(f"{sign} 0 1 2\n", [0, 1, 1])
            self.check(f"0 0 1 1{sign}\n", [0, 1, 1])
            self.check(f"0{sign}0 1 2\n", [0, 1, 1])
            self.check(f"0 0 1 2{sign}\n", [0, 1, 1])

    def test_signs_before_a_number(self):
        for line in ("-1 0 1 2", "+1 0 1 2", "0 -1 1 2", "0 0 1 -0", "0 0 1 2,", "0,0,1,2", "0\t0 1 2", "0 0 1 2\r"):
            self.check(line + "\n", [0, 1, 1])

    def test_the_first_of_several(self):
        right = "0 0 1 2\n"
        self.check(right * 3 + "x\n" + right + "\n" + "0", [0, 1, 4])
        self.check(right * 7 + "0", [0, 1, 8])
        self.check(right * 7 + "0\n0", [0, 1, 8])

    def test_told_ahead_of_a_wrong_pick(self):
        self.check("9 0 1 2\n0 0 0 0\n0 0 1 2 3\n", [0, 1, 3])
        self.check("9 0 1 2\n0 0 1 2", [0, 1, 2])

    def test_the_longest(self):
        self.check("0 0 1 2\n" * 1900 + "x", [0, 1, 1901])
        self.check("\n" * 15000, [0, 1, 1])
        self.check("0" * 15000, [0, 1, 1])
        self.check("0 0\n" * 3900 + "\n", [0, 1, 3901])


class WrongPicks(Unchanged):
    def test_a_seat_that_there_is_not(self):
        for i in (2, 7, 8, 9, 10, 99):
            self.check(f"{i} 0 1 2\n", [0, 2, 1])
            self.check(f"0 0 1 2\n{i} 0 1 2\n", [0, 2, 2])

    def test_a_place_out_of_range(self):
        for place in (20, 21, 99):
            self.check(f"0 0 1 {place}\n", [0, 2, 1])

    def test_no_place_of_the_pack(self):
        self.check("0 0 1 12\n", [0, 2, 1])
        self.check("0 0 1 19\n", [0, 2, 1])
        # The pack that was passed has nine cards left.
        self.check("0 0 1 2\n1 0 1 2\n1 0 1 9\n", [0, 2, 3])

    def test_too_few_places(self):
        self.check("0 0\n", [0, 2, 1])
        self.check("0 0 1 2\n1 0 1\n", [0, 2, 2])

    def test_too_many_places(self):
        for line in ("0 0 1\n", "0 0 1 2\n"):
            self.assertEqual(ask(ONE, replay(line), record())[1:], [[0, 2, 1], [0]])

    def test_a_place_twice(self):
        for places in ("0 0 1", "0 1 0", "1 0 0", "11 11 11"):
            self.check(f"0 {places}\n", [0, 2, 1])

    def test_no_pack_waits(self):
        self.check("0 0 1 2\n0 0 1 2\n", [0, 2, 2])

    def test_the_drafting_is_over(self):
        whole = "0 0\n1 0\n"
        begun = begin(recipe=(1, 0, 0, 0))
        made = [begun, late(1)]
        told = ask(*made, *all_told_of(2))[2:]
        self.assertEqual(ask(*made, replay(whole + "0 0\n"), *all_told_of(2))[2:], [[0, 2, 3]] + told)
        self.assertEqual(last(*made, replay(whole + "1 0\n")), [0, 2, 3])
        self.assertEqual(last(*made, replay(whole + "5 0\n")), [0, 2, 3])
        self.assertEqual(last(*made, replay(whole + "1 0\n" * 2000)), [0, 2, 3])

    def test_the_first_of_several(self):
        self.check("0 0 1 2\n1 0 1 2\n1 0 1 2\n1 0 1 2\n9 0 1 2\n0 0 0 0\n", [0, 2, 4])

    def test_a_pick_that_only_the_picks_made_allow(self):
        # The record begins from the begin again, not from what was picked.
        self.check("1 0 4 3\n1 0 4 3\n", [0, 2, 2])
        self.check("0 8 7 6\n0 0 1 2\n", [0, 2, 2])


class Refused(Unchanged):
    def test_where_there_is_no_table(self):
        for given in ("", "0 0\n", "x", "\n", "0 0"):
            with self.subTest(given=given):
                self.assertEqual(ask(replay(given), stands()), [[-2], [0, 0, 0, 1, 0, 0]])
        self.assertEqual(last(begin(n=1), replay("")), [-2])

    def test_numbers_that_are_no_bytes(self):
        for number in (-1, 256, LARGEST, -LARGEST):
            self.check([number], [-1])
            self.check([48, 32, 48, number, 10], [-1])
            self.check([120, 10, number], [-1])
            self.assertEqual(last(replay([number])), [-1])

    def test_the_ends_of_the_range_are_bytes(self):
        self.check([0], [0, 1, 1])
        self.check([255], [0, 1, 1])

    def test_the_length(self):
        # Longer than the interface hands in, but the range is told.
        self.check("x" * 20000, [0, 1, 1])
        self.check("x" * 20001, [-1])
        self.assertEqual(last(replay("x" * 20000)), [-2])
        self.assertEqual(last(replay("x" * 20001)), [-1])


class Mixed(unittest.TestCase):
    def test_record_back_and_replay_in_turn(self):
        begun = begin(n=3, recipe=(4, 0, 0, 0), rounds=2, seed=3, sorts=one_class(9))
        calls = [begun, late(0), late(1), back(1), replay("2 3\n0 1\n"), pick(1, 2), back(2), late(0), record()]
        told = ask(*calls, *all_told_of(3))
        self.assertEqual(text_of(told[8]), "2 3\n0 0\n")
        self.assertEqual(told[9:], ask(begun, pick(2, 3), pick(0, 0), *all_told_of(3))[3:])
        line = second_line(begun)
        self.assertEqual(told, [[0, 4]] + [line.answer(call) for call in [*calls[1:], *all_told_of(3)]])


if __name__ == "__main__":
    unittest.main()
