"""begin: what it answers, its ranges, its list, its refusals, and that everything is new."""

import unittest

from helper import LARGEST, ask, begin, begin_with_row, last, late, one_class, pool, see, stands, told_of

ONE = [0, 0, 1]


class Answers(unittest.TestCase):
    def test_size_is_the_recipes_sum(self):
        sorts = [(c, 0, 1) for c in range(4)]
        self.assertEqual(last(begin(recipe=(1, 2, 3, 4), sorts=sorts)), [0, 10])
        self.assertEqual(last(begin(recipe=(0, 0, 0, 1), sorts=sorts)), [0, 1])
        self.assertEqual(last(begin(recipe=(5, 15, 0, 0), sorts=sorts)), [0, 20])

    def test_round_0_is_open_at_once(self):
        for n in (2, 8):
            with self.subTest(n=n):
                calls = ask(begin(n=n, recipe=(4, 0, 0, 0), rounds=4), stands(), *[see(i) for i in range(n)])
                self.assertEqual(calls[1], [0, n, 0, 0, 0, 4 * n])
                self.assertEqual(calls[2:], [[0, i, 0, 0, 0, 0, 0] for i in range(n)])


class Ranges(unittest.TestCase):
    def check(self, name, good, bad):
        for value in good:
            with self.subTest(name=name, good=value):
                self.assertEqual(last(begin(**{name: value}))[0], 0)
        for value in bad:
            with self.subTest(name=name, bad=value):
                self.assertEqual(last(begin(**{name: value})), [-1])

    def test_seats(self):
        self.check("n", range(2, 9), (1, 9, 0, -1, -2, LARGEST, -LARGEST))

    def test_at_a_time(self):
        self.check("at_a_time", (1, 2, 3), (0, 4, -1, LARGEST, -LARGEST))

    def test_rounds(self):
        self.check("rounds", (1, 2, 3, 4), (0, 5, -1, LARGEST, -LARGEST))

    def test_seed(self):
        self.check("seed", (0, 1, LARGEST), (-1, -LARGEST))

    def test_recipe(self):
        sorts = [(c, 0, 1) for c in range(4)]
        for place in range(4):
            for number, answer in ((15, [0, 15]), (1, [0, 1]), (16, [-1]), (-1, [-1]), (LARGEST, [-1])):
                recipe = [0, 0, 0, 0]
                recipe[place] = number
                with self.subTest(recipe=recipe):
                    self.assertEqual(last(begin(recipe=recipe, sorts=sorts)), answer)

    def test_recipe_together(self):
        sorts = [(c, 0, 1) for c in range(4)]
        for recipe, answer in (
            ((0, 0, 0, 0), [-1]),
            ((1, 0, 0, 0), [0, 1]),
            ((15, 5, 0, 0), [0, 20]),
            ((5, 5, 5, 5), [0, 20]),
            ((15, 6, 0, 0), [-1]),
            ((5, 5, 5, 6), [-1]),
            ((15, 15, 15, 15), [-1]),
        ):
            with self.subTest(recipe=recipe):
                self.assertEqual(last(begin(recipe=recipe, sorts=sorts)), answer)

    def test_a_number_below_0_does_not_make_up_for_others(self):
        sorts = [(c, 0, 1) for c in range(4)]
        self.assertEqual(last(begin(recipe=(-1, 5, 0, 0), sorts=sorts)), [-1])
        self.assertEqual(last(begin(recipe=(16, -1, 0, 0), sorts=sorts)), [-1])

    def test_each_number_of_a_sort(self):
        edges = ((0, (0, 3), (-1, 4)), (1, (0, 15), (-1, 16)), (2, (1, 20), (0, 21)))
        for place, good, bad in edges:
            for value in good + bad + (LARGEST, -LARGEST):
                changed = list(ONE)
                changed[place] = value
                answer = [0, 3] if value in good else [-1]
                for row in (ONE + changed, ONE + changed + ONE):
                    with self.subTest(row=row):
                        self.assertEqual(last(begin_with_row(2, (3, 0, 0, 0), 1, 1, 0, row)), answer)


class LengthOfSorts(unittest.TestCase):
    def check(self, row, answer):
        with self.subTest(length=len(row)):
            self.assertEqual(last(begin_with_row(2, (3, 0, 0, 0), 1, 1, 0, row)), answer)

    def test_three_numbers_for_each_of_1_to_64(self):
        for sorts in (1, 2, 63, 64):
            self.check(ONE * sorts, [0, 3])

    def test_none_and_too_many(self):
        for sorts in (0, 65, 66, 1000):
            self.check(ONE * sorts, [-1])

    def test_not_three_for_each(self):
        # Numbers that are within every range, so that the length alone is wrong.
        for length in (1, 2, 4, 5, 190, 191, 193, 194, 15900):
            self.check([1] * length, [-1])

    def test_a_wrong_list_is_read_to_its_end(self):
        self.assertEqual(ask(begin_with_row(2, (3, 0, 0, 0), 1, 1, 0, [7] * 100), stands())[1], [0, 0, 0, 1, 0, 0])


class ClassWithoutSort(unittest.TestCase):
    def test_each_class(self):
        for missing in range(4):
            sorts = [(c, 0, 1) for c in range(4) if c != missing]
            with self.subTest(missing=missing):
                self.assertEqual(last(begin(recipe=(1, 1, 1, 1), sorts=sorts)), [-6])
                recipe = [1, 1, 1, 1]
                recipe[missing] = 0
                self.assertEqual(last(begin(recipe=recipe, sorts=sorts)), [0, 3])

    def test_out_of_range_is_nearer_to_0(self):
        for changed in ({"n": 9}, {"at_a_time": 0}, {"rounds": 5}, {"seed": -1}, {"recipe": (0, 16, 0, 0)}):
            with self.subTest(changed=changed):
                self.assertEqual(last(begin(**{"recipe": (0, 3, 0, 0), **changed})), [-1])
        self.assertEqual(last(begin(recipe=(0, 3, 0, 0), sorts=[(0, 0, 0)])), [-1])
        self.assertEqual(last(begin_with_row(2, (0, 3, 0, 0), 1, 1, 0, [0, 0, 1, 0])), [-1])

    def test_an_empty_list_is_out_of_range(self):
        self.assertEqual(last(begin(sorts=())), [-1])


class SecondBegin(unittest.TestCase):
    first = begin(n=3, recipe=(4, 0, 0, 0), at_a_time=2, rounds=2, seed=9, sorts=one_class(7, 2))
    second = begin(n=2, recipe=(1, 3, 0, 0), at_a_time=1, rounds=3, seed=4, sorts=[(0, 1, 3), (1, 2, 2), (1, 4, 5)])

    def test_everything_is_new(self):
        alone = ask(self.second, *told_of(2))
        for picks in ([], [late(0)], [late(i) for i in (0, 1, 2, 0, 1, 2, 0, 1)], [late(i % 3) for i in range(30)]):
            with self.subTest(picks=len(picks)):
                together = ask(self.first, *picks, self.second, *told_of(2))
                self.assertEqual(together[1 + len(picks):], alone)

    def test_the_same_begin_again(self):
        again = ask(self.first, late(0), late(1), self.first, *told_of(3))
        self.assertEqual(again[3:], ask(self.first, *told_of(3)))

    def test_fewer_seats_than_before(self):
        self.assertEqual(ask(self.first, pool(2), self.second, pool(2))[1::2], [[0], [-2]])

    def test_a_refused_begin_leaves_the_table(self):
        refused = [
            begin(n=9), begin(seed=-1), begin(recipe=(0, 1, 0, 0)), begin(sorts=()), begin(sorts=[(0, 0, 21)]),
        ]
        made = [self.first, late(0), late(1), late(0)]
        expected = ask(*made, *told_of(3))[len(made):]
        for call in refused:
            with self.subTest(call=call):
                found = ask(*made, call, *told_of(3))[len(made):]
                self.assertIn(found[0], ([-1], [-6]))
                self.assertEqual(found[1:], expected)

    def test_a_refused_first_begin_leaves_no_table(self):
        self.assertEqual(ask(begin(n=1), stands(), see(0)), [[-1], [0, 0, 0, 1, 0, 0], [-2]])


if __name__ == "__main__":
    unittest.main()
