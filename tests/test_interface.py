"""The one list that is handed in and the one that is given back."""

import unittest

from helper import ask, begin, begin_with_row, late, one_class, pick, pool, see, seen, sizes, split, stands, waits
from packdraft.reading import Reader
from packdraft.table import answers

BEGUN = begin(n=3, recipe=(2, 1, 0, 0), at_a_time=2, rounds=2, seed=5, sorts=one_class(4) + [(1, 15, 20)])
MANY = [
    stands(), see(0), BEGUN, pick(0, 2, 0), late(0), late(1), pick(2, 0, 1, 2, 3), begin(n=1), see(0), pool(0), waits(),
    sizes(1), seen(1), pick(8), pick(0, 0, 0), late(2), late(0), late(1), late(2), stands(), pool(2), seen(2),
]
# One call of each number, with how many numbers it has in all; the rows are of several lengths.
FORMS = [
    (0, [0, 2, 3, 0, 0, 0, 1, 1, 0, 3, 0, 0, 1]),
    (0, [0, 9, 9, 9, 9, 9, 9, 9, 9, 0]),
    (1, [1, 0, 0]),
    (1, [1, 0, 2, 5, 7]),
    (2, [2, 1]),
    (3, [3, 1]),
    (4, [4, 1]),
    (5, [5]),
    (6, [6, 1]),
    (7, [7]),
    (8, [8, 1]),
    (9, [9, 1]),
    (10, [10, 1]),
    (11, [11, 1]),
    (12, [12, 63]),
    (13, [13]),
    (14, [14, 0]),
    (14, [14, 6, 48, 32, 48, 10, 7, 7]),
    (15, [15, 1000]),
    (16, [16, 1]),
    (17, [17, 3]),
]


def flat(calls):
    return [number for call in calls for number in call]


class GivenBack(unittest.TestCase):
    def test_each_answer_behind_its_length(self):
        self.assertEqual(answers([7]), [6, 0, 0, 0, 1, 0, 0])
        self.assertEqual(answers([5, 3, 0, 3, 8]), [1, 0, 1, -2, 1, -1])
        self.assertEqual(answers(begin() + [2, 1, 5]), [2, 0, 3, 2, 0, 0, 3, 0, 2, 0])

    def test_a_list_of_plain_whole_numbers(self):
        told = answers(flat(MANY))
        self.assertIs(type(told), list)
        self.assertEqual({type(number) for number in told}, {int})

    def test_a_refusal_stands_alone(self):
        for answer in ask(*MANY):
            self.assertTrue(answer[0] == 0 or (answer[0] < 0 and len(answer) == 1))

    def test_300_calls(self):
        told = split(answers(begin() + [7] * 299))
        self.assertEqual(told, [[0, 3]] + [[0, 2, 0, 0, 0, 6]] * 299)

    def test_a_long_row(self):
        wrong_begin = begin_with_row(2, (1, 0, 0, 0), 1, 1, 0, [1] * 50)
        told = ask(pick(0, *[7] * 15900), waits(), wrong_begin, stands())
        self.assertEqual(told, [[-1], [0], [-1], [0, 0, 0, 1, 0, 0]])


class HandedIn(unittest.TestCase):
    def test_stands_as_it_was(self):
        calls = flat(MANY)
        copy = list(calls)
        answers(calls)
        self.assertEqual(calls, copy)

    def test_is_not_changed_for_a_while_either(self):
        class Watched(list):
            def refuse(self, *arguments, **named):
                raise AssertionError("the list was changed")

            append = extend = insert = pop = remove = clear = sort = reverse = refuse
            __setitem__ = __delitem__ = __iadd__ = __imul__ = refuse

        self.assertEqual(answers(Watched(flat(MANY))), answers(flat(MANY)))

    def test_what_is_given_back_is_not_bound_to_it(self):
        calls = flat(MANY)
        told = answers(calls)
        copy = list(told)
        calls.clear()
        self.assertEqual(told, copy)


class NothingIsKept(unittest.TestCase):
    def test_a_second_time_answers_the_same(self):
        calls = flat(MANY)
        first = answers(calls)
        self.assertEqual(answers(calls), first)

    def test_another_list_between(self):
        first = answers(flat(MANY))
        answers(begin() + late(0))
        self.assertEqual(answers(stands()), [6, 0, 0, 0, 1, 0, 0])
        self.assertEqual(answers(flat(MANY)), first)

    def test_changing_what_was_given_back(self):
        first = answers(flat(MANY))
        copy = list(first)
        first.clear()
        self.assertEqual(answers(flat(MANY)), copy)


class Reading(unittest.TestCase):
    def test_each_form(self):
        reader = Reader(flat([call for _, call in FORMS]))
        for number, call in FORMS:
            with self.subTest(call=call):
                found = reader.read_call()
                self.assertEqual(found.number, number)
                counts = [len(found.row)] if number in (0, 1, 14) else []
                self.assertEqual([number] + found.numbers + counts + found.row, call)
        self.assertFalse(reader.has_more())

    def test_each_form_between_others(self):
        for number, call in FORMS:
            with self.subTest(call=call):
                told = split(answers(stands() + call + waits() + call + stands()))
                self.assertEqual(len(told), 5)
                self.assertEqual(len(told[0]), 6)
                self.assertEqual(told[2][0], 0)
                self.assertEqual(len(told[4]), 6)


if __name__ == "__main__":
    unittest.main()
