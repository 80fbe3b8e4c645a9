"""Where packs go, when the next round is opened, and when the drafting is over."""

import unittest

from helper import ask, begin, last, late, one_class, see, sizes, stands, waits


class Directions(unittest.TestCase):
    def test_each_round(self):
        for n in (2, 3, 8):
            for which_round in range(4):
                begun = begin(n=n, recipe=(2, 0, 0, 0), rounds=4)
                ahead = [late(i) for _ in range(2 * which_round) for i in range(n)]
                for giver in range(n):
                    to = (giver + 1) % n if which_round in (0, 2) else (giver - 1) % n
                    expected = [1] * n
                    expected[giver] -= 1
                    expected[to] += 1
                    with self.subTest(n=n, which_round=which_round, giver=giver):
                        told = ask(begun, *ahead, stands(), late(giver), waits(), sizes(to))
                        self.assertEqual(told[-4][2], which_round)
                        self.assertEqual(told[-2:], [[0] + expected, [0, 2, 1]])

    def test_origin_and_how_often_passed(self):
        begun = begin(n=8, recipe=(10, 0, 0, 0), rounds=2)
        all_once = [late(i) for i in range(8)]
        for steps in range(10):
            with self.subTest(steps=steps):
                forth = ask(begun, *all_once * steps, *[see(i) for i in range(8)])[-8:]
                self.assertEqual([told[1:3] for told in forth], [[(i - steps) % 8, steps] for i in range(8)])
                back = ask(begun, *all_once * (10 + steps), *[see(i) for i in range(8)])[-8:]
                self.assertEqual([told[1:3] for told in back], [[(i + steps) % 8, steps] for i in range(8)])

    def test_a_pack_comes_to_the_end_of_the_row(self):
        begun = begin(n=4, recipe=(4, 0, 0, 0))
        piled_up = [late(0), late(3), late(0), late(2), late(3), late(0)]
        told = ask(begun, *piled_up, sizes(1), late(1), see(1), late(1), see(1))
        self.assertEqual(told[7], [0, 4, 3, 2, 1])
        self.assertEqual(told[9][:3], [0, 0, 1])
        self.assertEqual(told[11][:3], [0, 3, 2])


class Rounds(unittest.TestCase):
    def test_the_next_is_opened_when_no_pack_waits(self):
        begun = begin(n=2, recipe=(3, 0, 0, 0), at_a_time=2, rounds=2)
        told = ask(begun, late(0), late(1), late(1), stands(), waits(), late(0), stands(), waits())
        self.assertEqual(told[4:6], [[0, 2, 0, 0, 3, 6], [0, 1, 0]])
        self.assertEqual(told[7:], [[0, 2, 1, 0, 4, 12], [0, 1, 1]])

    def test_one_to_four(self):
        for rounds in (1, 2, 3, 4):
            for at_a_time, turns in ((1, 5), (2, 3), (3, 2)):
                for n in (2, 5, 8):
                    with self.subTest(rounds=rounds, at_a_time=at_a_time, n=n):
                        self.check_whole_draft(n, at_a_time, rounds, turns)

    def check_whole_draft(self, n, at_a_time, rounds, turns):
        begun = begin(n=n, recipe=(5, 0, 0, 0), at_a_time=at_a_time, rounds=rounds)
        takes = [late(i) for _ in range(rounds * turns) for i in range(n)]
        for made in range(0, len(takes), n - 1):
            which = made // (turns * n)
            told = last(begun, *takes[:made], stands())
            self.assertEqual(told, [0, n, which, 0, made, 5 * n * (which + 1)])
        told = ask(begun, *takes, stands(), waits())[-2:]
        self.assertEqual(told, [[0, n, rounds, 1, len(takes), 5 * n * rounds], [0] + [0] * n])

    def test_a_new_round_has_new_packs_of_origin_and_seat(self):
        begun = begin(n=3, recipe=(1, 0, 0, 0), rounds=4, sorts=one_class(2))
        # The sheet: i = 1: 167951807 mod 2 = 1, so it stays 0, 1.
        told = ask(begun, *[late(0), late(1), late(2)] * 3, see(0), see(1), see(2))[-3:]
        self.assertEqual(told, [[0, 0, 0, 1], [0, 1, 0, 0], [0, 2, 0, 1]])

    def test_see_when_it_is_over(self):
        self.assertEqual(last(begin(recipe=(1, 0, 0, 0)), late(0), late(1), see(0)), [-4])


if __name__ == "__main__":
    unittest.main()
