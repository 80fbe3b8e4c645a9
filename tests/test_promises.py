"""The promises 1 to 6 over whole drafts, also with all eighteen calls among the picks."""

import functools
import random
import unittest

from helper import (
    LARGEST, SORTS, all_told_of, ask, away, back, begin, colours, gone, holders, last, late, line_by_chance,
    one_class, pick, play_on, pool, record, replay, right_begin, second_line, see, seen, sheet, sizes, sorts_in, stands,
    text_of, told_of, told_to, truth, whole_drafts,
)
from packdraft.draft import Draft, Setup
from packdraft.reading import Reader
from packdraft.sheets import Sort
from packdraft.table import Line, answer_to


def new_draft(table, seed):
    sorts = [Sort(*each) for each in SORTS]
    return Draft(Setup(table["n"], list(table["recipe"]), table["at_a_time"], table["rounds"], seed, sorts))


def waiting_seats(draft):
    return [i for i, seat in enumerate(draft.seats) if seat.row]


def play(draft, chance, after_each):
    """Plays to the end by chance; answers the picks in the order in which they were made."""
    made = []
    while not draft.is_over():
        i = chance.choice(waiting_seats(draft))
        places = chance.sample(range(len(draft.seats[i].row[0].cards)), draft.due(i))
        draft.take(i, places)
        made.append((i, places))
        after_each(draft)
    return made


@functools.cache
def many_lines():
    chances = [random.Random(number) for number in range(40)]
    return [line_by_chance(chance, 200, [right_begin(chance)]) for chance in chances]


def all_steps():
    """Of many lines with all eighteen calls: what keeps the table, each call, and its answer."""
    for calls in many_lines():
        line = Line()
        for call in calls:
            yield line, call, answer_to(line, Reader(call).read_call())


def replayed_and_back(begun, made):
    """These picks by a replay of a part, a back too far, the rest, and a replay of the record."""
    half = len(made) // 2
    text = text_of(last(begun, *made[:half], record()))
    calls = [replay(text), *made[half:half + 3], *[back(1)] * min(3, len(made) - half), *made[half:]]
    return [*calls, replay(text_of(last(begun, *calls, record())))]


class Promise1(unittest.TestCase):
    def check_each_card_lies_once(self, draft):
        found = []
        for seat in draft.seats:
            found += seat.pool
            for pack in seat.row:
                self.assertTrue(pack.cards)
                found += pack.cards
        self.assertEqual(sorted(found), list(range(1, len(draft.card_sorts) + 1)))

    def test_each_opened_card_is_in_one_pool_or_pack(self):
        for table, seed in whole_drafts():
            with self.subTest(table=table, seed=seed):
                draft = new_draft(table, seed)
                self.check_each_card_lies_once(draft)
                play(draft, random.Random(seed), self.check_each_card_lies_once)

    def test_with_all_calls(self):
        for line, _, _ in all_steps():
            self.check_each_card_lies_once(line.draft)

    def test_the_sorts_through_the_calls(self):
        for table, seed in whole_drafts():
            chance = random.Random(seed)
            begun = begin(seed=seed, sorts=SORTS, **table)
            calls = line_by_chance(chance, 150, [begun])
            calls = [call for place, call in enumerate(calls) if place == 0 or call[0] != 0]
            seats = range(table["n"])
            told = ask(*calls, stands(), *[sheet(c) for c in range(4)], *[pool(i) for i in seats],
                       *[truth(i) for i in seats])[len(calls):]
            found = [k for answer in told[5:5 + table["n"]] for k in answer[1:]]
            for answer in told[5 + table["n"]:]:
                rest = answer[1:]
                while rest:
                    found += rest[3:3 + rest[2]]
                    rest = rest[3 + rest[2]:]
            packs = told[0][5] // sum(table["recipe"])
            opened = []
            for answer, how_many in zip(told[1:5], table["recipe"]):
                opened += [answer[1 + k % (len(answer) - 1)] for k in range(packs * how_many)]
            with self.subTest(table=table, seed=seed):
                self.assertEqual(sorted(found), sorted(opened))

    def test_counted_through_the_calls(self):
        chance = random.Random(1)
        begun = begin(n=4, recipe=(7, 0, 0, 0), at_a_time=2, rounds=2, sorts=one_class(9))
        told_each = [stands(), *[pool(i) for i in range(4)], *[sizes(i) for i in range(4)]]
        for length in range(0, 50, 3):
            takes = [late(chance.randrange(4)) for _ in range(length)]
            told = ask(begun, *takes, *told_each)[-9:]
            in_pools = sum(len(answer) - 1 for answer in told[1:5])
            self.assertEqual(in_pools + sum(sum(answer) for answer in told[5:]), told[0][5])


class Promise2(unittest.TestCase):
    def test_the_order_of_the_seats_does_not_matter(self):
        for table, seed in whole_drafts():
            chance = random.Random(seed)
            made = play(new_draft(table, seed), chance, lambda draft: None)
            begun = begin(seed=seed, sorts=SORTS, **table)
            in_order = [pick(i, *places) for i, places in made]
            for length in (len(made), len(made) // 2):
                expected = ask(begun, *in_order[:length], *told_of(table["n"]))[1 + length:]
                for _ in range(3):
                    other = self.in_another_order(table, seed, made[:length], chance)
                    self.assertEqual(sorted(other), sorted(in_order[:length]))
                    with self.subTest(table=table, seed=seed, length=length):
                        told = ask(begun, *other, *told_of(table["n"]))
                        self.assertTrue(all(answer[0] == 0 for answer in told[:1 + length]))
                        self.assertEqual(told[1 + length:], expected)

    def test_with_all_calls_between(self):
        for table, seed in whole_drafts():
            chance = random.Random(seed)
            n = table["n"]
            begun = begin(seed=seed, sorts=SORTS, **table)
            made = play(new_draft(table, seed), chance, lambda draft: None)[:80]
            in_order = [pick(i, *places) for i, places in made]
            expected = ask(begun, *in_order, *told_of(n))[1 + len(made):]
            other = self.in_another_order(table, seed, made, chance)
            with self.subTest(table=table, seed=seed):
                told = ask(begun, *replayed_and_back(begun, other), *told_of(n))
                self.assertEqual(told[-len(expected):], expected)
                between = self.with_calls_that_change_nothing(chance, begun, other, n)
                told = ask(begun, *between, *told_of(n))
                self.assertEqual(told[-len(expected):], expected)

    def with_calls_that_change_nothing(self, chance, begun, made, n):
        between = [*all_told_of(n), *Promise6.refusable, *Promise6.fruitless]
        calls = []
        for place, call in enumerate(made):
            calls.append(call)
            if chance.random() < 0.3:
                calls.append(chance.choice(between))
            if chance.random() < 0.1:
                calls += [back(1), call]
            if chance.random() < 0.05:
                calls.append(replay(text_of(last(begun, *made[:1 + place], record()))))
        return calls

    def in_another_order(self, table, seed, made, chance):
        draft = new_draft(table, seed)
        own = {i: [places for j, places in made if i == j] for i in range(table["n"])}
        calls = []
        while any(own.values()):
            i = chance.choice([seat for seat in waiting_seats(draft) if own[seat]])
            places = own[i].pop(0)
            draft.take(i, places)
            calls.append(pick(i, *places))
        return calls


class Promise3(unittest.TestCase):
    def test_all_have_taken_equally_many_at_each_rounds_end(self):
        for table, seed in whole_drafts():
            draft = new_draft(table, seed)
            ends = []

            def note(draft):
                if draft.round_number > len(ends):
                    ends.append([len(seat.pool) for seat in draft.seats])

            play(draft, random.Random(seed), note)
            size = sum(table["recipe"])
            with self.subTest(table=table, seed=seed):
                self.assertEqual(ends, [[size * k] * table["n"] for k in range(1, table["rounds"] + 1)])

    def test_with_all_calls(self):
        ends = 0
        round_number = 0
        for line, call, _ in all_steps():
            draft = line.draft
            if call[0] in (1, 2) and draft.round_number > round_number:
                ends += 1
                size = sum(draft.setup.recipe)
                self.assertEqual({len(seat.pool) for seat in draft.seats}, {size * draft.round_number})
            round_number = draft.round_number
        self.assertGreater(ends, 50)

    def test_through_the_calls(self):
        begun = begin(n=3, recipe=(4, 0, 0, 0), at_a_time=3, rounds=2)
        first_round = [late(i) for i in (2, 0, 0, 1, 1, 2)]
        second_round = [late(i) for i in (0, 2, 2, 1, 1, 0)]
        told_each = [stands(), pool(0), pool(1), pool(2)]
        told = ask(begun, *first_round, *told_each, *second_round, *told_each)
        self.assertEqual(told[7:11], [[0, 3, 1, 0, 6, 24]] + [[0] * 5] * 3)
        self.assertEqual(told[17:], [[0, 3, 2, 1, 12, 24]] + [[0] * 9] * 3)


class Promise4(unittest.TestCase):
    def check_cards(self, draft):
        for i, seat in enumerate(draft.seats):
            before_it = seat.row[0].cards if seat.row else []
            told = seat.pool + seat.cards_gone() + seat.cards_away() + before_it
            self.assertEqual(sorted(told), sorted(seat.cards_seen()))
            self.assertEqual(len(told), len(set(told)))
            others = [card for j, other in enumerate(draft.seats) if i != j for card in other.pool]
            self.assertLessEqual(set(seat.cards_gone()), set(others))

    def test_the_cards_of_whole_drafts(self):
        for table, seed in whole_drafts():
            with self.subTest(table=table, seed=seed):
                play(new_draft(table, seed), random.Random(seed), self.check_cards)

    def test_with_all_calls(self):
        for line, _, _ in all_steps():
            self.check_cards(line.draft)

    def test_through_the_calls(self):
        for table, seed in whole_drafts():
            begun = begin(seed=seed, sorts=SORTS, **table)
            made = play_on(random.Random(seed), second_line(begun))
            for length in (0, len(made) // 3, len(made) // 2, len(made) - 1, len(made)):
                for i in range(table["n"]):
                    with self.subTest(table=table, seed=seed, length=length, i=i):
                        self.check_told([begun, *made[:length]], i, table["n"])

    def check_told(self, made, i, n):
        told = ask(*made, see(i), seen(i), gone(i), away(i), *[pool(j) for j in range(n)])[len(made):]
        before_it = told[0][3:] if told[0][0] == 0 else []
        pools = [answer[1:] for answer in told[4:]]
        parts = pools[i] + sorts_in(told[2]) + sorts_in(told[3]) + before_it
        self.assertEqual(sorts_in(told[1]), sorted(parts))
        others = [k for j in range(n) if i != j for k in pools[j]]
        for k in set(sorts_in(told[2])):
            self.assertLessEqual(sorts_in(told[2]).count(k), others.count(k))


class Promise5(unittest.TestCase):
    """Two sorts, one of class 0 and one of class 1, side by side: where they exchange
    their classes, the sheets are the same but for the sorts of two cards."""

    table = {"n": 8, "recipe": (2, 2, 0, 0), "at_a_time": 1, "rounds": 2}
    plain = [(k % 2, k % 16, 1) for k in range(64)]
    takes = [late(i) for i in range(8)] * 8

    def test_the_sorts_of_two_cards_that_a_seat_never_sees(self):
        begun = begin(seed=3, sorts=self.plain, **self.table)
        seen_by = [set(answer[1::2]) for answer in ask(begun, *self.takes, *[seen(i) for i in range(8)])[-8:]]
        checked = 0
        for i in range(8):
            for k in range(0, 64, 2):
                if not {k, k + 1} & seen_by[i]:
                    self.check(i, k)
                    checked += 1
        self.assertGreater(checked, 10)

    def exchanged(self, k):
        sorts = list(self.plain)
        sorts[k], sorts[k + 1] = (1, k % 16, 1), (0, (k + 1) % 16, 1)
        return sorts

    def both(self, k, calls):
        return [ask(begin(seed=3, sorts=sorts, **self.table), *calls) for sorts in (self.plain, self.exchanged(k))]

    def check(self, i, k):
        begun = begin(seed=3, sorts=self.plain, **self.table)
        for length in (0, 3, 13, 22, 32, 41, 64):
            with self.subTest(i=i, k=k, length=length):
                made = self.takes[:length]
                first, second = self.both(k, [*made, *told_to(i)])
                self.assertEqual(first[-9:], second[-9:])
                first, second = self.both(k, [*replayed_and_back(begun, made), *all_told_of(1), *told_to(i)])
                self.assertEqual(first[-9:], second[-9:])
        first, second = self.both(k, [*self.takes, *[pool(j) for j in range(8)]])
        self.assertNotEqual(first, second)

    def test_in_whole_drafts(self):
        exchanges = 0
        for table, seed in whole_drafts():
            draft = new_draft(table, seed)
            chance = random.Random(seed)

            def exchange(draft):
                nonlocal exchanges
                i = chance.randrange(table["n"])
                hidden = set(range(1, 1 + len(draft.card_sorts))) - set(draft.seats[i].cards_seen())
                if len(hidden) > 1:
                    exchanges += 1
                    before = self.told(draft, i)
                    one, other = chance.sample(sorted(hidden), 2)
                    sorts = draft.card_sorts
                    sorts[one - 1], sorts[other - 1] = sorts[other - 1], sorts[one - 1]
                    self.assertEqual(self.told(draft, i), before)

            with self.subTest(table=table, seed=seed):
                play(draft, chance, exchange)
        self.assertGreater(exchanges, 100)

    def told(self, draft, i):
        line = Line()
        line.draft = draft
        return [answer_to(line, Reader(call).read_call()) for call in told_to(i)]


class Promise6(unittest.TestCase):
    refusable = [
        begin(n=1), begin(recipe=(0, 0, 0, 0)), begin(recipe=(0, 0, 1, 0)), begin(sorts=()), begin(at_a_time=4),
        pick(0), pick(0, 19, 18, 17), pick(0, 0, 0), pick(1, 1, 1, 1), pick(0, 20), pick(0, -1), pick(8, 0),
        pick(1, 0, 1, 2, 3), pick(-LARGEST, LARGEST), late(8), late(-1), see(8), pool(8), sizes(8), seen(8), gone(8),
        gone(-1), away(8), away(-1), colours(8), colours(-1), holders(64), holders(-1), holders(63), replay([256]),
        replay([48, 32, -1]), back(0), back(1001), back(1000), back(-1), truth(8), truth(-1), sheet(4), sheet(-1),
    ]
    of_seat_7 = [
        pick(7, 0), late(7), see(7), pool(7), sizes(7), seen(7), gone(7), away(7), colours(7), truth(7),
    ]
    # Replays that are no refusals, but change nothing either.
    fruitless = [replay("0 0\n\n"), replay("0"), replay("0 0 0 0\n"), replay("9 0\n"), replay("0 0 1\n0 25\n")]

    def check(self, made, n):
        expected = ask(*made, *all_told_of(n))[len(made):]
        refusable = self.refusable + (self.of_seat_7 if n < 8 or not made else [])
        fruitless = self.fruitless if made else []
        for call in refusable + fruitless:
            told = ask(*made, call, *all_told_of(n))[len(made):]
            with self.subTest(made=len(made), call=call):
                if call in refusable:
                    self.assertEqual(len(told[0]), 1)
                    self.assertLess(told[0][0], 0)
                else:
                    self.assertIn(told[0][:2], ([0, 1], [0, 2]))
                self.assertEqual(told[1:], expected)
        told = ask(*made, *refusable, *fruitless, *all_told_of(n))
        self.assertEqual(told[-len(expected):], expected)

    def test_with_all_calls(self):
        before = None
        refused = {}
        for line, call, answer in all_steps():
            now = self.everything(line.draft)
            changes = call[0] in (0, 1, 2, 14, 15) and answer[0] == 0 and not (call[0] == 14 and answer[1] > 0)
            if before is not None and not changes:
                self.assertEqual(now, before, call)
            if answer[0] < 0:
                self.assertEqual(len(answer), 1)
                refused[call[0]] = True
            before = now
        self.assertEqual(sorted(refused), [number for number in range(18) if number not in (5, 7, 13)])

    def everything(self, draft):
        rows = [[(pack.number, pack.origin, pack.passed, pack.cards) for pack in seat.row] for seat in draft.seats]
        seats = [(seat.pool, seat.first_looks, seat.last_looks) for seat in draft.seats]
        setup = draft.setup
        sorts = [(each.class_number, each.colours, each.copies) for each in setup.sorts]
        told = [setup.how_many_seats, setup.recipe, setup.at_a_time, setup.rounds, setup.sheets, sorts]
        return repr([rows, seats, told, draft.sheet_places, draft.round_number, draft.picks, draft.card_sorts])

    def test_ahead_of_the_first_begin(self):
        self.check([], 8)

    def test_in_a_whole_draft(self):
        begun = begin(n=3, recipe=(5, 0, 0, 0), at_a_time=2, rounds=2, seed=8, sorts=one_class(11))
        takes = [late(i) for _ in range(6) for i in (0, 1, 2)]
        for length in range(len(takes) + 1):
            self.check([begun, *takes[:length]], 3)

    def test_a_pick_that_no_pack_waits_for(self):
        made = [begin(n=3, recipe=(5, 0, 0, 0)), late(0)]
        expected = ask(*made, *told_of(3))[2:]
        for call in (pick(0, 0), late(0), see(0), pick(0, 7, 7)):
            told = ask(*made, call, *told_of(3))[2:]
            self.assertEqual(told[0], [-4])
            self.assertEqual(told[1:], expected)


if __name__ == "__main__":
    unittest.main()
