"""gone and away: what a seat can tell of the cards that it has seen."""

import random
import unittest

from helper import (
    SORTS, ask, away, back, begin, gone, last, late, one_class, pick, play_on, pool, second_line, see, seen, sorts_in,
    sorts_of, whole_drafts,
)

# With seed 0 the sheet of four sorts is 2, 1, 0, 3: seat 0 has the pack 2 1 0 3 2, seat 1 the pack 1 0 3 2 1.
FIVE = begin(recipe=(5, 0, 0, 0), sorts=one_class(4))
TURN = [late(0), late(1)]


def known(*made):
    """gone(0), away(0), gone(1) and away(1) after these calls."""
    told = ask(*made, gone(0), away(0), gone(1), away(1))
    return [answer[1:] if answer[0] == 0 else answer for answer in told[-4:]]


class TwoSeats(unittest.TestCase):
    def test_at_the_beginning_all_is_before_the_seat(self):
        self.assertEqual(known(FIVE), [[], [], [], []])

    def test_a_pack_that_was_passed_on(self):
        # The card that the seat took itself is neither gone nor away.
        self.assertEqual(known(FIVE, late(0)), [[], [0, 1, 1, 1, 2, 1, 3, 1], [], []])

    def test_a_pack_that_waits_behind_the_first_was_not_looked_at(self):
        self.assertEqual(last(FIVE, late(0), away(1)), [0])
        self.assertEqual(last(FIVE, late(0), gone(1)), [0])

    def test_one_turn(self):
        a_left = [0, 1, 1, 1, 2, 1, 3, 1]
        b_left = [0, 1, 1, 1, 2, 1, 3, 1]
        self.assertEqual(known(FIVE, *TURN), [[], a_left, [], b_left])

    def test_a_pack_that_came_round_once(self):
        # Seat 1 took the 1 of the first pack, seat 0 the 0 of the second one.
        self.assertEqual(known(FIVE, *TURN * 2), [[1, 1], [1, 1, 2, 1, 3, 1], [0, 1], [0, 1, 2, 1, 3, 1]])

    def test_between(self):
        self.assertEqual(known(FIVE, *TURN, late(0))[:2], [[], [0, 1, 1, 2, 2, 2, 3, 2]])
        self.assertEqual(known(FIVE, *TURN * 2, late(0))[:2], [[1, 1], [1, 1, 2, 2, 3, 2]])

    def test_packs_that_came_round_several_times(self):
        self.assertEqual(known(FIVE, *TURN * 3)[:2], [[1, 1, 3, 1], [2, 1, 3, 1]])
        self.assertEqual(known(FIVE, *TURN * 4)[:2], [[1, 1, 3, 2], [1, 1]])

    def test_when_it_is_over(self):
        # What was taken behind the seat's last look at a pack stays away for it.
        self.assertEqual(known(FIVE, *TURN * 5), [[1, 1, 3, 2], [1, 1], [0, 2, 2, 1], [2, 1]])

    def test_a_pack_that_was_emptied_elsewhere_is_away(self):
        two = begin(recipe=(2, 0, 0, 0), sorts=one_class(4))
        self.assertEqual(known(two, *TURN), [[], [1, 1], [], [3, 1]])
        self.assertEqual(known(two, *TURN, late(1)), [[], [1, 1], [], [3, 1]])
        self.assertEqual(known(two, *TURN * 2), [[], [1, 1], [], [3, 1]])

    def test_a_pack_that_came_back_is_told_only_when_looked_at(self):
        # Seat 1 takes twice: both packs wait at seat 0, and the one that it knows is the second.
        made = [FIVE, late(0), late(1), pick(1, 3)]
        self.assertEqual(known(*made)[:2], [[], [0, 1, 1, 1, 2, 1, 3, 1]])
        # Now it is first: the 2 is missing, and what is left is before the seat.
        self.assertEqual(known(*made, late(0))[:2], [[2, 1], [1, 1, 2, 1, 3, 1]])
        # And passed on again, the 1 taken.
        self.assertEqual(known(*made, late(0), late(0))[:2], [[2, 1], [0, 1, 1, 1, 2, 1, 3, 2]])

    def test_two_and_three_at_a_time(self):
        six = {"recipe": (6, 0, 0, 0), "sorts": one_class(12)}
        sheet = [number for i in (0, 1) for number in last(begin(**six), see(i))[3:]]
        for at_a_time, gone_first in ((2, [2, 3]), (3, [])):
            begun = begin(at_a_time=at_a_time, **six)
            told = known(begun, *TURN * 2)
            expected = sorted(sheet[place] for place in gone_first)
            self.assertEqual(told[0][0::2], expected)
            self.assertEqual(told[0][1::2], [1] * len(expected))
            # Of the second pack seat 0 has seen what seat 1 left, and took the first of that.
            left = sheet[6 + 2 * at_a_time:12] + (sheet[3:6] if at_a_time == 3 else [])
            self.assertEqual(told[1][0::2], sorted(left))

    def test_a_pack_of_one_card_leaves_nothing_to_tell(self):
        begun = begin(recipe=(1, 0, 0, 0), rounds=2, sorts=one_class(4))
        for length in range(5):
            self.assertEqual(known(begun, *(TURN * 2)[:length]), [[], [], [], []])

    def test_cards_of_one_sort_are_told_apart(self):
        begun = begin(recipe=(5, 0, 0, 0), sorts=one_class(1))
        self.assertEqual(known(begun, *TURN * 2)[:2], [[0, 1], [0, 3]])
        self.assertEqual(known(begun, *TURN * 5)[:2], [[0, 3], [0, 1]])


class Rounds(unittest.TestCase):
    def test_packs_of_earlier_rounds(self):
        # The packs are 2 1 0 and 3 2 1, then 0 3 2 and 1 0 3.
        begun = begin(recipe=(3, 0, 0, 0), rounds=2, sorts=one_class(4))
        self.assertEqual(known(begun, *TURN * 3)[:2], [[1, 1], [1, 1]])
        self.assertEqual(known(begun, *TURN * 3, late(0))[:2], [[1, 1], [1, 1, 2, 1, 3, 1]])
        self.assertEqual(known(begun, *TURN * 5)[:2], [[1, 1, 3, 1], [1, 1, 3, 1]])
        self.assertEqual(known(begun, *TURN * 6)[:2], [[1, 1, 3, 1], [1, 1, 3, 1]])

    def test_what_was_away_in_each_round_stays(self):
        begun = begin(recipe=(2, 0, 0, 0), rounds=4, sorts=one_class(4))
        for rounds in range(1, 5):
            self.assertEqual(known(begun, *TURN * 2 * rounds), [[], [1, rounds], [], [3, rounds]])


class MoreSeats(unittest.TestCase):
    def test_the_first_pack_comes_round_to_each_of_eight(self):
        sorts = [(0, 0, 1)] * 40 + [(1, 0, 1)] * 24
        begun = begin(n=8, recipe=(5, 4, 0, 0), sorts=sorts)
        packs = [answer[3:] for answer in ask(begun, *[see(i) for i in range(8)])[1:]]
        made = [late(i) for _ in range(8) for i in range(8)]
        told = ask(begun, *made, *[gone(i) for i in range(8)], *[pool(i) for i in range(8)])
        for i in range(8):
            # Of its own pack all is gone but the last card and the first one, which it took itself;
            # all other packs it has seen but once.
            with self.subTest(i=i):
                self.assertEqual(sorts_in(told[-16 + i]), sorted(packs[i][1:8]))

    def test_seats_that_are_passed_by_a_slow_one(self):
        # Seat 1 does not take: nothing comes round, and all that was passed on stays away.
        begun = begin(n=3, recipe=(4, 0, 0, 0), sorts=one_class(12))
        packs = [answer[3:] for answer in ask(begun, see(0), see(1), see(2))[1:]]
        told = ask(begun, late(0), late(2), late(0), away(0), gone(0), away(1), gone(1), away(2), gone(2))[4:]
        self.assertEqual(sorts_in(told[0]), sorted(packs[0][1:] + packs[2][2:]))
        self.assertEqual(sorts_in(told[4]), sorted(packs[2][1:]))
        self.assertEqual([told[1], told[2], told[3], told[5]], [[0]] * 4)


class WholeDrafts(unittest.TestCase):
    def test_against_the_second_table(self):
        for table, seed in whole_drafts():
            begun = begin(seed=seed, sorts=SORTS, **table)
            line = second_line(begun)
            made = play_on(random.Random(seed), line)
            for length in {0, 1, table["n"], len(made) // 2, len(made) - 1, len(made)}:
                line = second_line(begun)
                for call in made[:length]:
                    line.answer(call)
                for i in range(table["n"]):
                    with self.subTest(table=table, seed=seed, length=length, i=i):
                        found = ask(begun, *made[:length], gone(i), away(i), seen(i))[-3:]
                        facts = line.table.known(i)
                        for answer, wanted in zip(found, ("gone", "away", None)):
                            cards = [card for card in facts if wanted in (None, facts[card])]
                            self.assertEqual(sorts_in(answer), sorted(sorts_of(cards)))

    def test_after_back_it_is_not_known_any_more(self):
        made = [FIVE, *TURN * 3]
        for length in range(6):
            self.assertEqual(known(*made, back(6 - length)), known(*made[:1 + length]))


if __name__ == "__main__":
    unittest.main()
