"""The one list that is handed in and the one that is given back."""

import unittest

from helper import (
    all_told_of, ask, away, back, begin, begin_with_row, colours, gone, holders, last, late, one_class, pick, pool,
    record, replay, see, seen, sheet, sizes, split, stands, text_of, truth, waits,
)
from packdraft.reading import Reader
from packdraft.table import answers

BEGUN = begin(n=3, recipe=(2, 1, 0, 0), at_a_time=2, rounds=2, seed=5, sorts=one_class(4) + [(1, 15, 20)])
MANY = [
    stands(), see(0), record(), sheet(0), back(1), replay(""), BEGUN, pick(0, 2, 0), late(0), late(1),
    pick(2, 0, 1, 2, 3), begin(n=1), see(0), pool(0), waits(), sizes(1), seen(1), pick(8), pick(0, 0, 0), late(2),
    gone(0), away(0), late(0), late(1), truth(1), late(2), stands(), pool(2), seen(2), gone(2), away(2), colours(1),
    holders(4), holders(5), record(), truth(2), sheet(1), sheet(2), back(2), stands(), replay("0 0 1\n1 2 1\n"),
    record(), truth(2), replay("0 0\n"), replay("0 0"), replay([300]), back(3), back(1), record(), gone(1), away(1),
    colours(0),
]
# The longest draft: 8 seats, 20 cards in a pack, one at a time, 4 rounds.
LONGEST = begin(n=8, recipe=(15, 5, 0, 0), rounds=4, seed=9, sorts=[(k % 2, k % 16, 20) for k in range(64)])
LONGEST_RECORD = "".join(
    f"{i} {(7 * turn + i) % (20 - turn)}\n" for _ in range(4) for turn in range(20) for i in range(8)
)
# One call of each number, with how many numbers it has in all; the rows are of several lengths.
FORMS = [
    (0, [0, 2, 3, 0, 0, 0, 1, 1, 0, 3, 0, 0, 1]),
    (0, [0, 9, 9, 9, 9, 9, 9, 9, 9, 0]),
    (1, [1, 0, 0]),
    (1, [1, 0, 2, 5, 7]),
    (2, [2, 1]),
    (3, [3, 1]),
    (4, [4, 1]),
    (5, [5]),
    (6, [6, 1]),
    (7, [7]),
    (8, [8, 1]),
    (9, [9, 1]),
    (10, [10, 1]),
    (11, [11, 1]),
    (12, [12, 63]),
    (13, [13]),
    (14, [14, 0]),
    (14, [14, 6, 48, 32, 48, 10, 7, 7]),
    (15, [15, 1000]),
    (16, [16, 1]),
    (17, [17, 3]),
]


def flat(calls):
    return [number for call in calls for number in call]


class GivenBack(unittest.TestCase):
    def test_each_answer_behind_its_length(self):
        self.assertEqual(answers([7]), [6, 0, 0, 0, 1, 0, 0])
        self.assertEqual(answers([5, 3, 0, 3, 8]), [1, 0, 1, -2, 1, -1])
        self.assertEqual(answers(begin() + [2, 1, 5]), [2, 0, 3, 2, 0, 0, 3, 0, 2, 0])

    def test_a_list_of_plain_whole_numbers(self):
        told = answers(flat(MANY))
        self.assertIs(type(told), list)
        self.assertEqual({type(number) for number in told}, {int})

    def test_a_refusal_stands_alone(self):
        for answer in ask(*MANY):
            self.assertTrue(answer[0] == 0 or (answer[0] < 0 and len(answer) == 1))

    def test_300_calls(self):
        told = split(answers(begin() + [7] * 299))
        self.assertEqual(told, [[0, 3]] + [[0, 2, 0, 0, 0, 6]] * 299)

    def test_a_long_row(self):
        wrong_begin = begin_with_row(2, (1, 0, 0, 0), 1, 1, 0, [1] * 50)
        told = ask(pick(0, *[7] * 15900), waits(), wrong_begin, stands())
        self.assertEqual(told, [[-1], [0], [-1], [0, 0, 0, 1, 0, 0]])


class Longest(unittest.TestCase):
    def test_a_replay_of_a_whole_draft(self):
        told = ask(LONGEST, replay(LONGEST_RECORD), stands(), waits(), *[pool(i) for i in range(8)], record())
        self.assertEqual(told[1:4], [[0, 0], [0, 8, 4, 1, 640, 640], [0] * 9])
        self.assertEqual([len(answer) for answer in told[4:12]], [81] * 8)
        self.assertEqual(text_of(told[12]), LONGEST_RECORD)

    def test_a_replay_of_the_most_bytes(self):
        most = "0 0\n" * 3975
        told = ask(replay(most), begin(), replay(most), stands())
        self.assertEqual(told, [[-2], [0, 3], [0, 2, 2], [0, 2, 0, 0, 0, 6]])
        self.assertEqual(last(begin(), replay(most[:-1])), [0, 1, 3975])
        self.assertEqual(last(LONGEST, replay((LONGEST_RECORD + most)[:15900])), [0, 2, 641])

    def test_a_whole_draft_pick_by_pick_over_several_lines(self):
        # 300 calls are fewer than 640 picks: each line begins with the record of the one before it.
        lines = LONGEST_RECORD.splitlines(keepends=True)
        text = ""
        for first in range(0, 640, 200):
            picks = [pick(*[int(word) for word in line.split()]) for line in lines[first:first + 200]]
            told = ask(LONGEST, replay(text), *picks, record())
            text = text_of(told[-1])
            self.assertEqual(text, "".join(lines[:first + 200]))

    def test_many_backs(self):
        told = ask(LONGEST, replay(LONGEST_RECORD), *[back(1)] * 297, stands())
        self.assertEqual(told[2:-1], [[0, left] for left in range(639, 342, -1)])
        self.assertEqual(told[-1], [0, 8, 2, 0, 343, 480])

    def test_many_backs_and_picks(self):
        calls = [LONGEST, replay(LONGEST_RECORD)] + [back(320), stands(), replay("7 0\n" + "0 0\n"), stands()] * 10
        calls += [replay(LONGEST_RECORD)] + [back(2), late(6), late(7)] * 60
        told = ask(*calls)
        self.assertEqual(told[2:6], [[0, 320], [0, 8, 2, 0, 320, 480], [0, 0], [0, 8, 0, 0, 2, 160]])
        self.assertEqual(told[6], [-5])
        self.assertEqual(told[42], [0, 0])
        self.assertEqual(told[43:46], told[-3:])
        self.assertEqual(told[43], [0, 638])

    def test_many_replays(self):
        short = "".join(LONGEST_RECORD.splitlines(keepends=True)[:10])
        told = ask(LONGEST, *[replay(short)] * 298, record())
        self.assertEqual(told[1:-1], [[0, 0]] * 298)
        self.assertEqual(text_of(told[-1]), short)
        whole = [replay(LONGEST_RECORD), replay(LONGEST_RECORD[:-2]), replay(LONGEST_RECORD + "0 0\n"), back(640)]
        told = ask(LONGEST, *whole, *whole[:1], stands())
        self.assertEqual(told[1:], [[0, 0], [0, 1, 640], [0, 2, 641], [0, 0], [0, 0], [0, 8, 4, 1, 640, 640]])

    def test_300_calls_that_tell_of_a_whole_draft(self):
        calls = [LONGEST, replay(LONGEST_RECORD), *all_told_of(8)]
        calls += [record()] * (300 - len(calls))
        told = ask(*calls)
        self.assertEqual(len(told), 300)
        self.assertEqual(len(told[-1]), 1 + len(LONGEST_RECORD))


class HandedIn(unittest.TestCase):
    def test_stands_as_it_was(self):
        calls = flat(MANY)
        copy = list(calls)
        answers(calls)
        self.assertEqual(calls, copy)

    def test_is_not_changed_for_a_while_either(self):
        class Watched(list):
            def refuse(self, *arguments, **named):
                raise AssertionError("the list was changed")

            append = extend = insert = pop = remove = clear = sort = reverse = refuse
            __setitem__ = __delitem__ = __iadd__ = __imul__ = refuse

        self.assertEqual(answers(Watched(flat(MANY))), answers(flat(MANY)))

    def test_what_is_given_back_is_not_bound_to_it(self):
        calls = flat(MANY)
        told = answers(calls)
        copy = list(told)
        calls.clear()
        self.assertEqual(told, copy)


class NothingIsKept(unittest.TestCase):
    def test_a_second_time_answers_the_same(self):
        calls = flat(MANY)
        first = answers(calls)
        self.assertEqual(answers(calls), first)

    def test_another_list_between(self):
        first = answers(flat(MANY))
        answers(begin() + late(0))
        self.assertEqual(answers(stands()), [6, 0, 0, 0, 1, 0, 0])
        self.assertEqual(answers(flat(MANY)), first)

    def test_changing_what_was_given_back(self):
        first = answers(flat(MANY))
        copy = list(first)
        first.clear()
        self.assertEqual(answers(flat(MANY)), copy)


class Reading(unittest.TestCase):
    def test_each_form(self):
        reader = Reader(flat([call for _, call in FORMS]))
        for number, call in FORMS:
            with self.subTest(call=call):
                found = reader.read_call()
                self.assertEqual(found.number, number)
                counts = [len(found.row)] if number in (0, 1, 14) else []
                self.assertEqual([number] + found.numbers + counts + found.row, call)
        self.assertFalse(reader.has_more())

    def test_each_form_between_others(self):
        for number, call in FORMS:
            with self.subTest(call=call):
                told = split(answers(stands() + call + waits() + call + stands()))
                self.assertEqual(len(told), 5)
                self.assertEqual(len(told[0]), 6)
                self.assertEqual(told[2][0], 0)
                self.assertEqual(len(told[4]), 6)
                self.assertTrue(told[1] and told[3])

    def test_each_call_answers(self):
        for number, call in FORMS:
            with self.subTest(call=call):
                answer = last(BEGUN, late(1), call)
                self.assertTrue(answer[0] == 0 or len(answer) == 1)


if __name__ == "__main__":
    unittest.main()
