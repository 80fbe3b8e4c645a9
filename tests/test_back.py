"""back: picks that are taken back."""

import random
import unittest

from helper import (
    LARGEST, SORTS, all_told_of, ask, back, begin, last, late, one_class, pick, play_on, record, replay, second_line,
    stands, whole_drafts,
)

# Two seats, packs of two cards, two rounds: each round has four picks.
BEGUN = begin(recipe=(2, 0, 0, 0), rounds=2, seed=5, sorts=one_class(9))
PICKS = [pick(1, 1), pick(0, 0), late(0), late(1), pick(0, 1), pick(1, 0), late(1), late(0)]


class HowMany(unittest.TestCase):
    def test_answers_how_many_are_left(self):
        for made in range(1, 9):
            for m in range(1, made + 1):
                with self.subTest(made=made, m=m):
                    self.assertEqual(last(BEGUN, *PICKS[:made], back(m)), [0, made - m])

    def test_one_more_than_there_are(self):
        for made in range(9):
            self.assertEqual(last(BEGUN, *PICKS[:made], back(made + 1)), [-5])

    def test_the_range(self):
        for made in ([], [BEGUN], [BEGUN, *PICKS]):
            for m, answer in ((0, -1), (-1, -1), (1000, -5), (1001, -1), (LARGEST, -1), (-LARGEST, -1)):
                with self.subTest(made=len(made), m=m):
                    self.assertEqual(last(*made, back(m)), [answer])

    def test_ahead_of_the_first_begin(self):
        self.assertEqual(ask(back(1), begin(n=9), back(1)), [[-5], [-1], [-5]])

    def test_not_behind_the_last_begin(self):
        self.assertEqual(last(BEGUN, *PICKS, BEGUN, back(1)), [-5])
        self.assertEqual(ask(BEGUN, *PICKS, BEGUN, late(0), back(2), back(1), back(1))[-3:], [[-5], [0, 0], [-5]])

    def test_refused_calls_are_no_picks(self):
        self.assertEqual(ask(BEGUN, late(0), late(0), pick(1, 5), late(9), back(2), back(1))[-2:], [[-5], [0, 0]])

    def test_the_picks_of_a_replay(self):
        told = ask(BEGUN, *PICKS, replay("0 0\n1 0\n"), back(3), back(2), back(1))
        self.assertEqual(told[-4:], [[0, 0], [-5], [0, 0], [-5]])

    def test_the_most(self):
        # 8 seats, 20 cards, 4 rounds: 640 picks.
        begun = begin(n=8, recipe=(15, 5, 0, 0), rounds=4, sorts=[(0, 0, 1), (1, 0, 1)])
        text = "".join(f"{i} {19 - turn}\n" for _ in range(4) for turn in range(20) for i in range(8))
        told = ask(begun, replay(text), stands(), back(641), back(640), stands(), back(1))
        self.assertEqual(told[1:], [[0, 0], [0, 8, 4, 1, 640, 640], [-5], [0, 0], [0, 8, 0, 0, 0, 160], [-5]])


class AsBefore(unittest.TestCase):
    def check(self, begun, made, n):
        told = [ask(begun, *made[:length], *all_told_of(n))[1 + length:] for length in range(len(made) + 1)]
        for length in range(1, len(made) + 1):
            for m in range(1, length + 1):
                if length in (m, m + 1) or m in (1, 2, 5, n, length // 2):
                    with self.subTest(length=length, m=m):
                        found = ask(begun, *made[:length], back(m), *all_told_of(n))
                        self.assertEqual(found[2 + length:], told[length - m])

    def test_one_several_and_all_over_a_rounds_end_and_the_end(self):
        self.check(BEGUN, PICKS, 2)

    def test_more_seats(self):
        begun = begin(n=5, recipe=(2, 1, 0, 0), at_a_time=2, rounds=2, seed=1, sorts=SORTS)
        self.check(begun, play_on(random.Random(1), second_line(begun)), 5)

    def test_whole_drafts(self):
        for table, seed in whole_drafts():
            chance = random.Random(seed)
            begun = begin(seed=seed, sorts=SORTS, **table)
            made = play_on(chance, second_line(begun))
            for length in (len(made), chance.randint(1, len(made))):
                m = chance.randint(1, length)
                with self.subTest(table=table, seed=seed, length=length, m=m):
                    found = ask(begun, *made[:length], back(m), *all_told_of(table["n"]))[2 + length:]
                    wanted = ask(begun, *made[:length - m], *all_told_of(table["n"]))[1 + length - m:]
                    self.assertEqual(found, wanted)

    def test_one_by_one(self):
        calls = [BEGUN, *PICKS]
        for length in range(7, -1, -1):
            calls.append(back(1))
            told = ask(*calls, *all_told_of(2))[len(calls):]
            self.assertEqual(told, ask(BEGUN, *PICKS[:length], *all_told_of(2))[1 + length:])

    def test_the_drafting_goes_on_when_it_was_over(self):
        told = ask(BEGUN, *PICKS, late(0), stands(), back(1), stands(), late(1), late(0), stands())[9:]
        self.assertEqual([told[0], told[1]], [[-3], [0, 2, 2, 1, 8, 8]])
        self.assertEqual([told[2], told[3], told[4]], [[0, 7], [0, 2, 1, 0, 7, 8], [-4]])
        self.assertEqual([told[5][0], told[6]], [0, [0, 2, 2, 1, 8, 8]])

    def test_a_round_that_is_not_opened_any_more(self):
        told = ask(BEGUN, *PICKS[:4], stands(), back(1), stands())[5:]
        self.assertEqual(told, [[0, 2, 1, 0, 4, 8], [0, 3], [0, 2, 0, 0, 3, 4]])


class GoOn(unittest.TestCase):
    """Behind a back all goes on as if what was taken back had never been made."""

    def test_the_same_picks_again(self):
        for m in range(1, 9):
            found = ask(BEGUN, *PICKS, back(m), *PICKS[8 - m:], *all_told_of(2))[-len(all_told_of(2)):]
            self.assertEqual(found, ask(BEGUN, *PICKS, *all_told_of(2))[9:])

    def test_other_picks(self):
        for table, seed in whole_drafts():
            chance = random.Random(seed)
            begun = begin(seed=seed, sorts=SORTS, **table)
            made = play_on(chance, second_line(begun), 60)
            left = chance.randrange(len(made))
            line = second_line(begun)
            for call in made[:left]:
                line.answer(call)
            others = play_on(chance, line, 60)
            with self.subTest(table=table, seed=seed, left=left):
                tail = [*others, *all_told_of(table["n"])]
                found = ask(begun, *made, back(len(made) - left), *tail)[2 + len(made):]
                self.assertEqual(found, ask(begun, *made[:left], *tail)[1 + left:])

    def test_refused_ones_change_nothing(self):
        for made in (0, 3, 8):
            for m in (0, -1, made + 1, 1000, 1001):
                found = ask(BEGUN, *PICKS[:made], back(m), *all_told_of(2))[2 + made:]
                self.assertEqual(found, ask(BEGUN, *PICKS[:made], *all_told_of(2))[1 + made:])

    def test_the_record_tells_what_is_left(self):
        told = ask(BEGUN, *PICKS[:3], back(2), pick(0, 1), record())
        self.assertEqual(bytes(told[-1]), b"\x001 1\n0 1\n")


if __name__ == "__main__":
    unittest.main()
