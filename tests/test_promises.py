"""The promises 1, 2, 3 and 6, and of 4 and 5 what the calls 3 to 8 tell, over whole drafts."""

import random
import unittest

from helper import LARGEST, ask, begin, late, one_class, pick, pool, see, seen, sizes, stands, told_of, waits
from packdraft.draft import Draft
from packdraft.sheets import Sort, mixed_sheets

TABLES = [
    {"n": 2, "recipe": (3, 0, 0, 0), "at_a_time": 1, "rounds": 1},
    {"n": 2, "recipe": (4, 1, 2, 0), "at_a_time": 2, "rounds": 4},
    {"n": 3, "recipe": (0, 5, 0, 3), "at_a_time": 3, "rounds": 3},
    {"n": 5, "recipe": (1, 1, 1, 1), "at_a_time": 1, "rounds": 2},
    {"n": 8, "recipe": (2, 2, 2, 1), "at_a_time": 3, "rounds": 4},
    {"n": 8, "recipe": (5, 0, 5, 0), "at_a_time": 1, "rounds": 1},
]
SORTS = [(k % 4, k % 16, 1 + k % 3) for k in range(30)]


def new_draft(table, seed):
    sheets = mixed_sheets([Sort(*each) for each in SORTS], seed)
    draft = Draft(table["n"], list(table["recipe"]), table["at_a_time"], table["rounds"], sheets)
    draft.open_round()
    return draft


def waiting_seats(draft):
    return [i for i, seat in enumerate(draft.seats) if seat.row]


def play(draft, chance, after_each):
    """Plays to the end by chance; answers the picks in the order in which they were made."""
    made = []
    while not draft.is_over():
        i = chance.choice(waiting_seats(draft))
        places = chance.sample(range(len(draft.seats[i].row[0].cards)), draft.due(i))
        draft.take(i, places)
        made.append((i, places))
        after_each(draft)
    return made


def whole_drafts():
    for number, table in enumerate(TABLES):
        for turn in range(4):
            yield table, 1000 * number + turn


class Promise1(unittest.TestCase):
    def check_each_card_lies_once(self, draft):
        found = []
        for seat in draft.seats:
            found += seat.pool
            for pack in seat.row:
                self.assertTrue(pack.cards)
                found += pack.cards
        self.assertEqual(sorted(found), list(range(1, len(draft.card_sorts) + 1)))

    def test_each_opened_card_is_in_one_pool_or_pack(self):
        for table, seed in whole_drafts():
            with self.subTest(table=table, seed=seed):
                draft = new_draft(table, seed)
                self.check_each_card_lies_once(draft)
                play(draft, random.Random(seed), self.check_each_card_lies_once)

    def test_counted_through_the_calls(self):
        chance = random.Random(1)
        begun = begin(n=4, recipe=(7, 0, 0, 0), at_a_time=2, rounds=2, sorts=one_class(9))
        told_each = [stands(), *[pool(i) for i in range(4)], *[sizes(i) for i in range(4)]]
        for length in range(0, 50, 3):
            takes = [late(chance.randrange(4)) for _ in range(length)]
            told = ask(begun, *takes, *told_each)[-9:]
            in_pools = sum(len(answer) - 1 for answer in told[1:5])
            self.assertEqual(in_pools + sum(sum(answer) for answer in told[5:]), told[0][5])


class Promise2(unittest.TestCase):
    def test_the_order_of_the_seats_does_not_matter(self):
        for table, seed in whole_drafts():
            chance = random.Random(seed)
            made = play(new_draft(table, seed), chance, lambda draft: None)
            begun = begin(seed=seed, sorts=SORTS, **table)
            in_order = [pick(i, *places) for i, places in made]
            for length in (len(made), len(made) // 2):
                expected = ask(begun, *in_order[:length], *told_of(table["n"]))[1 + length:]
                for _ in range(3):
                    other = self.in_another_order(table, seed, made[:length], chance)
                    self.assertEqual(sorted(other), sorted(in_order[:length]))
                    with self.subTest(table=table, seed=seed, length=length):
                        told = ask(begun, *other, *told_of(table["n"]))
                        self.assertTrue(all(answer[0] == 0 for answer in told[:1 + length]))
                        self.assertEqual(told[1 + length:], expected)

    def in_another_order(self, table, seed, made, chance):
        draft = new_draft(table, seed)
        own = {i: [places for j, places in made if i == j] for i in range(table["n"])}
        calls = []
        while any(own.values()):
            i = chance.choice([seat for seat in waiting_seats(draft) if own[seat]])
            places = own[i].pop(0)
            draft.take(i, places)
            calls.append(pick(i, *places))
        return calls


class Promise3(unittest.TestCase):
    def test_all_have_taken_equally_many_at_each_rounds_end(self):
        for table, seed in whole_drafts():
            draft = new_draft(table, seed)
            ends = []

            def note(draft):
                if draft.round_number > len(ends):
                    ends.append([len(seat.pool) for seat in draft.seats])

            play(draft, random.Random(seed), note)
            size = sum(table["recipe"])
            with self.subTest(table=table, seed=seed):
                self.assertEqual(ends, [[size * k] * table["n"] for k in range(1, table["rounds"] + 1)])

    def test_through_the_calls(self):
        begun = begin(n=3, recipe=(4, 0, 0, 0), at_a_time=3, rounds=2)
        first_round = [late(i) for i in (2, 0, 0, 1, 1, 2)]
        second_round = [late(i) for i in (0, 2, 2, 1, 1, 0)]
        told_each = [stands(), pool(0), pool(1), pool(2)]
        told = ask(begun, *first_round, *told_each, *second_round, *told_each)
        self.assertEqual(told[7:11], [[0, 3, 1, 0, 6, 24]] + [[0] * 5] * 3)
        self.assertEqual(told[17:], [[0, 3, 2, 1, 12, 24]] + [[0] * 9] * 3)


class Promise4(unittest.TestCase):
    def test_what_was_seen_holds_what_was_taken_and_what_is_before_the_seat(self):
        for table, seed in whole_drafts():
            draft = new_draft(table, seed)

            def check(draft):
                for seat in draft.seats:
                    before_it = seat.row[0].cards if seat.row else []
                    self.assertLessEqual(set(seat.pool + before_it), set(seat.looked_at))

            with self.subTest(table=table, seed=seed):
                play(draft, random.Random(seed), check)


class Promise5(unittest.TestCase):
    """Two sorts, one of class 0 and one of class 1, side by side: where they exchange
    their classes, the sheets are the same but for the sorts of two cards."""

    def test_the_sorts_of_two_cards_that_a_seat_never_sees(self):
        table = {"n": 8, "recipe": (2, 2, 0, 0), "at_a_time": 1, "rounds": 1}
        plain = [(k % 2, 0, 1) for k in range(64)]
        takes = [late(i) for i in range(8)] * 4
        begun = begin(seed=3, sorts=plain, **table)
        everything = ask(begun, *[see(i) for i in range(8)], *takes, *[seen(i) for i in range(8)])
        opened = {sort for answer in everything[1:9] for sort in answer[3:]}
        checked = 0
        for i in range(8):
            own = set(everything[-8 + i][1::2])
            for k in range(0, 64, 2):
                if {k, k + 1} <= opened and not {k, k + 1} & own:
                    self.check(i, k, table, plain, takes)
                    checked += 1
        self.assertGreater(checked, 10)

    def check(self, i, k, table, plain, takes):
        exchanged = list(plain)
        exchanged[k], exchanged[k + 1] = plain[k + 1], plain[k]
        told_to_seat = [see(i), pool(i), waits(), sizes(i), stands(), seen(i)]
        for length in (0, 3, 13, 22, 32):
            calls = [*takes[:length], *told_to_seat]
            first = ask(begin(seed=3, sorts=plain, **table), *calls)
            second = ask(begin(seed=3, sorts=exchanged, **table), *calls)
            with self.subTest(i=i, k=k, length=length):
                self.assertEqual(first[-6:], second[-6:])
        others = [pool(j) for j in range(8)]
        self.assertNotEqual(
            ask(begin(seed=3, sorts=plain, **table), *takes, *others),
            ask(begin(seed=3, sorts=exchanged, **table), *takes, *others),
        )


class Promise6(unittest.TestCase):
    refusable = [
        begin(n=1), begin(recipe=(0, 0, 0, 0)), begin(recipe=(0, 0, 1, 0)), begin(sorts=()), begin(at_a_time=4),
        pick(0), pick(0, 19, 18, 17), pick(0, 0, 0), pick(1, 1, 1, 1), pick(0, 20), pick(0, -1), pick(7, 0), pick(8, 0),
        pick(1, 0, 1, 2, 3), pick(-LARGEST, LARGEST), late(7), late(8), late(-1), see(7), see(8), pool(7), pool(8),
        sizes(7), sizes(8), seen(7), seen(8),
    ]

    def check(self, made, n):
        expected = ask(*made, *told_of(n))[len(made):]
        for call in self.refusable:
            told = ask(*made, call, *told_of(n))[len(made):]
            with self.subTest(made=len(made), call=call):
                self.assertEqual(len(told[0]), 1)
                self.assertLess(told[0][0], 0)
                self.assertEqual(told[1:], expected)
        told = ask(*made, *self.refusable, *told_of(n))
        self.assertEqual(told[len(made) + len(self.refusable):], expected)

    def test_ahead_of_the_first_begin(self):
        self.check([], 8)

    def test_in_a_whole_draft(self):
        begun = begin(n=3, recipe=(5, 0, 0, 0), at_a_time=2, rounds=2, seed=8, sorts=one_class(11))
        takes = [late(i) for _ in range(6) for i in (0, 1, 2)]
        for length in range(len(takes) + 1):
            self.check([begun, *takes[:length]], 3)

    def test_a_pick_that_no_pack_waits_for(self):
        made = [begin(n=3, recipe=(5, 0, 0, 0)), late(0)]
        expected = ask(*made, *told_of(3))[2:]
        for call in (pick(0, 0), late(0), see(0), pick(0, 7, 7)):
            told = ask(*made, call, *told_of(3))[2:]
            self.assertEqual(told[0], [-4])
            self.assertEqual(told[1:], expected)


if __name__ == "__main__":
    unittest.main()
