"""What the tests share: how calls are written, and a second table.

The second table is made another way than the program: it has no rows of
packs. In one round the pack of origin o is taken from, for the s-th time, by
the seat that lies s steps from o; so all that waits, and all that was seen,
follows from how often each pack was taken from.
"""

import copy
import functools
import re

from packdraft.table import answers

MULTIPLIER = 6364136223846793005
INCREMENT = 1442695040888963407
LARGEST = 10 ** 18
EDGES = (-LARGEST, -1, 0, 1, 2, 3, 4, 5, 7, 8, 9, 15, 16, 19, 20, 21, LARGEST)

TABLES = [
    {"n": 2, "recipe": (3, 0, 0, 0), "at_a_time": 1, "rounds": 1},
    {"n": 2, "recipe": (4, 1, 2, 0), "at_a_time": 2, "rounds": 4},
    {"n": 3, "recipe": (0, 5, 0, 3), "at_a_time": 3, "rounds": 3},
    {"n": 5, "recipe": (1, 1, 1, 1), "at_a_time": 1, "rounds": 2},
    {"n": 8, "recipe": (2, 2, 2, 1), "at_a_time": 3, "rounds": 4},
    {"n": 8, "recipe": (5, 0, 5, 0), "at_a_time": 1, "rounds": 1},
]
SORTS = [(k % 4, k % 16, 1 + k % 3) for k in range(30)]


def begin(n=2, recipe=(3, 0, 0, 0), at_a_time=1, rounds=1, seed=0, sorts=((0, 0, 1),)):
    row = [number for each in sorts for number in each]
    return begin_with_row(n, recipe, at_a_time, rounds, seed, row)


def begin_with_row(n, recipe, at_a_time, rounds, seed, row):
    return [0, n, *recipe, at_a_time, rounds, seed, len(row), *row]


def pick(i, *places):
    return [1, i, len(places), *places]


def late(i):
    return [2, i]


def see(i):
    return [3, i]


def pool(i):
    return [4, i]


def waits():
    return [5]


def sizes(i):
    return [6, i]


def stands():
    return [7]


def seen(i):
    return [8, i]


def gone(i):
    return [9, i]


def away(i):
    return [10, i]


def colours(i):
    return [11, i]


def holders(k):
    return [12, k]


def record():
    return [13]


def replay(given):
    """given is a text, or a list of numbers where they are no bytes."""
    numbers = list(given.encode("latin-1")) if isinstance(given, str) else given
    return [14, len(numbers), *numbers]


def back(m):
    return [15, m]


def truth(i):
    return [16, i]


def sheet(c):
    return [17, c]


def text_of(answer):
    """The text of a record that was answered."""
    assert answer[0] == 0
    return bytes(answer[1:]).decode("ascii")


def sorts_in(answer):
    """The sorts of the pairs that were answered, each as often as they tell."""
    assert answer[0] == 0
    return [k for k, how_many in zip(answer[1::2], answer[2::2]) for _ in range(how_many)]


def one_class(how_many, copies=1):
    """So many sorts, all of class 0."""
    return [(0, 0, copies)] * how_many


def told_to(i):
    """All that the calls 3 to 11 tell seat i."""
    return [see(i), pool(i), waits(), sizes(i), stands(), seen(i), gone(i), away(i), colours(i)]


def told_of(n):
    """All that is told of a table with n seats, but for the record: that tells the order of the picks too."""
    calls = [waits(), stands()]
    for i in range(n):
        calls += [see(i), pool(i), sizes(i), seen(i), gone(i), away(i), colours(i), truth(i)]
    return calls + [sheet(c) for c in range(4)] + [holders(k) for k in range(64)]


def all_told_of(n):
    return [*told_of(n), record()]


def whole_drafts():
    """Tables from the smallest to the largest, each with several seeds."""
    for number, table in enumerate(TABLES):
        for turn in range(4):
            yield table, 1000 * number + turn


def split(numbers):
    parts = []
    while numbers:
        parts.append(numbers[1:1 + numbers[0]])
        numbers = numbers[1 + numbers[0]:]
    return parts


def ask(*calls):
    """The answers to these calls on one new object, one list for each call."""
    assert 1 <= len(calls) <= 300
    parts = split(answers([number for call in calls for number in call]))
    assert len(parts) == len(calls)
    return parts


def last(*calls):
    return ask(*calls)[-1]


def chance_after(seed, steps):
    """The chance after so many steps, at once: the sum of a geometric row."""
    power = pow(MULTIPLIER, steps, (MULTIPLIER - 1) * 2 ** 64)
    return (power * seed + INCREMENT * ((power - 1) // (MULTIPLIER - 1))) % 2 ** 64


def second_sheets(sorts, seed):
    return [list(sheet) for sheet in kept_sheets(tuple(tuple(each) for each in sorts), seed)]


@functools.cache
def kept_sheets(sorts, seed):
    """Follows each place backwards through the exchanges to where its card came from."""
    sheets = []
    used = 0
    for wanted in range(4):
        printed = [k for k, each in enumerate(sorts) for _ in range(each[2]) if each[0] == wanted]
        partners = {}
        for i in range(len(printed) - 1, 0, -1):
            used += 1
            partners[i] = (chance_after(seed, used) >> 33) % (i + 1)
        sheets.append([printed[came_from(place, partners)] for place in range(len(printed))])
    return sheets


def came_from(place, partners):
    for i in sorted(partners):
        if place == i:
            place = partners[i]
        elif place == partners[i]:
            place = i
    return place


class SecondTable:
    def __init__(self, n, recipe, at_a_time, rounds, seed, sorts):
        self.n, self.recipe, self.at_a_time, self.rounds, self.sorts = n, recipe, at_a_time, rounds, sorts
        self.sheets = second_sheets(sorts, seed)
        self.size = sum(recipe)
        # For each opened pack what it held at first, after one taking, after two ...
        self.held = {}
        self.taken_in = {}
        self.pools = [[] for _ in range(n)]
        self.round = 0
        if n:
            self.start_round()

    def start_round(self):
        for origin in range(self.n):
            pack = self.round * self.n + origin
            drawn = []
            for sheet, how_many in zip(self.sheets, self.recipe):
                first = pack * how_many
                drawn += [sheet[k % len(sheet)] for k in range(first, first + how_many)]
            cards = [(pack * self.size + k, drawn[k]) for k in range(self.size)]
            self.held[self.round, origin] = [cards]
            self.taken_in[self.round, origin] = 0

    def over(self):
        return self.round == self.rounds

    def origin(self, which_round, i, steps):
        return (i - steps * (-1) ** which_round) % self.n

    def row(self, i):
        """For each pack that waits at seat i: its origin, how often it was passed, its cards."""
        waiting = []
        if self.over():
            return waiting
        steps = self.taken_in[self.round, i]
        while True:
            origin = self.origin(self.round, i, steps)
            held = self.held[self.round, origin]
            if len(held) != steps + 1 or not held[steps]:
                return waiting
            waiting.append((origin, steps, held[steps]))
            steps += 1

    def due(self, i):
        return min(self.at_a_time, len(self.row(i)[0][2]))

    def take(self, i, places):
        origin, steps, cards = self.row(i)[0]
        taken = [cards[place] for place in places]
        self.held[self.round, origin].append([card for card in cards if card not in taken])
        self.taken_in[self.round, i] += 1
        self.pools[i] += taken
        if not any(self.held[self.round, other][-1] for other in range(self.n)):
            self.round += 1
            if not self.over():
                self.start_round()
        return taken

    def looks(self, i):
        """For each pack that seat i has looked at, what it held at each look."""
        looks = {}
        for which_round in range(min(self.round + 1, self.rounds)):
            for steps in range(self.taken_in[which_round, i] + 1):
                origin = self.origin(which_round, i, steps)
                held = self.held[which_round, origin]
                if steps < len(held) and held[steps]:
                    looks.setdefault((which_round, origin), []).append(held[steps])
        return looks

    def known(self, i):
        """For each card that seat i has seen, what it can tell of it."""
        before_it = self.row(i)[0][2] if self.row(i) else []
        known = {}
        for looks in self.looks(i).values():
            for card in {card for look in looks for card in look}:
                if card in self.pools[i]:
                    known[card] = "took"
                elif card not in looks[-1]:
                    known[card] = "gone"
                else:
                    known[card] = "before it" if card in before_it else "away"
        return known

    def copied(self):
        other = copy.copy(self)
        other.held = {pack: list(held) for pack, held in self.held.items()}
        other.taken_in = dict(self.taken_in)
        other.pools = [list(cards) for cards in self.pools]
        return other


def sorts_of(cards):
    return [card[1] for card in cards]


def seat_refusals(table, i):
    due = set()
    if i < 0 or i > 7:
        due.add(-1)
    if not 0 <= i < table.n:
        due.add(-2)
    elif not table.row(i):
        due.add(-4)
    return due


def begin_refusals(call):
    n, recipe, at_a_time, rounds, seed, row = call[1], call[2:6], call[6], call[7], call[8], call[10:]
    due = set()
    wanted = [(n, 2, 8), (at_a_time, 1, 3), (rounds, 1, 4), (seed, 0, LARGEST), (sum(recipe), 1, 20)]
    wanted += [(number, 0, 15) for number in recipe]
    for place, number in enumerate(row):
        wanted.append((number, *((0, 3), (0, 15), (1, 20))[place % 3]))
    if any(number < least or number > most for number, least, most in wanted):
        due.add(-1)
    if len(row) not in range(3, 193, 3):
        due.add(-1)
    if any(how_many and c not in row[::3] for c, how_many in enumerate(recipe)):
        due.add(-6)
    return due


def pick_refusals(table, i, places):
    due = seat_refusals(table, i)
    if table.over():
        due.add(-3)
    if len(places) > 3 or any(place < 0 or place > 19 for place in places):
        due.add(-1)
    if not due:
        allowed = range(len(table.row(i)[0][2]))
        if len(places) != table.due(i) or len(set(places)) < len(places) or set(places) - set(allowed):
            due.add(-5)
    return due


def second_pairs(cards):
    sorts = sorts_of(cards)
    return [number for k in range(64) if k in sorts for number in (k, sorts.count(k))]


class SecondLine:
    """Answers the calls as the document tells, from the second table.

    It keeps the table ahead of each pick, where the program makes the picks anew.
    """

    def __init__(self):
        self.start(SecondTable(0, (0, 0, 0, 0), 1, 0, 0, ()))

    def start(self, table):
        self.table = table
        self.earlier = []
        self.record = []

    def take(self, i, places):
        self.earlier.append(self.table)
        self.record.append(" ".join(str(number) for number in (i, *places)) + "\n")
        self.table = self.table.copied()
        return self.table.take(i, places)

    def refusals(self, call):
        number = call[0]
        if number == 0:
            return begin_refusals(call)
        if number == 1:
            return pick_refusals(self.table, call[1], call[3:])
        if number in (5, 7, 13):
            return set()
        if number in (12, 14, 15, 17):
            return self.other_refusals(call)
        due = seat_refusals(self.table, call[1])
        if number == 2 and self.table.over():
            due.add(-3)
        return due if number in (2, 3) else due - {-4}

    def other_refusals(self, call):
        number = call[0]
        most = {12: 63, 14: 255, 15: 1000, 17: 3}[number]
        numbers = call[2:] if number == 14 else call[1:]
        due = set()
        if any(each > most or each < (number == 15) for each in numbers) or len(numbers) > 20000:
            due.add(-1)
        if number == 12 and call[1] >= len(self.table.sorts) or number == 14 and not self.table.n:
            due.add(-2)
        if number == 15 and call[1] > len(self.record):
            due.add(-5)
        return due

    def answer(self, call):
        due = self.refusals(call)
        if due:
            return [max(due)]
        return [0] + (self.change(call) if call[0] in (0, 1, 2, 14, 15) else self.tell(call))

    def change(self, call):
        number = call[0]
        if number == 0:
            sorts = list(zip(call[10::3], call[11::3], call[12::3]))
            self.start(SecondTable(call[1], call[2:6], call[6], call[7], call[8], sorts))
            return [self.table.size]
        if number == 14:
            return self.replayed(bytes(call[2:]).decode("latin-1"))
        if number == 15:
            self.table = self.earlier[-call[1]]
            del self.earlier[-call[1]:]
            del self.record[-call[1]:]
            return [len(self.record)]
        places = call[3:] if number == 1 else list(range(self.table.due(call[1])))
        return sorts_of(self.take(call[1], places))

    def replayed(self, text):
        lines = re.findall("[^\n]*\n|[^\n]+", text)
        for number, line in enumerate(lines):
            if not re.fullmatch("(0|[1-9][0-9]?)( (0|[1-9][0-9]?)){1,3}\n", line):
                return [1, number + 1]
        other = SecondLine()
        other.start((self.earlier + [self.table])[0])
        for number, line in enumerate(lines):
            i, *places = [int(word) for word in line.split()]
            if pick_refusals(other.table, i, places):
                return [2, number + 1]
            other.take(i, places)
        self.table, self.earlier, self.record = other.table, other.earlier, other.record
        return [0]

    def tell(self, call):
        table, number = self.table, call[0]
        if number == 5:
            return [len(table.row(i)) for i in range(table.n)]
        if number == 7:
            opened = len(table.held) * table.size
            return [table.n, table.round, int(table.over()), len(self.record), opened]
        if number == 12:
            return [sorts_of(cards).count(call[1]) for cards in table.pools]
        if number == 13:
            return list("".join(self.record).encode("ascii"))
        if number == 17:
            return table.sheets[call[1]]
        return self.tell_seat(number, call[1])

    def tell_seat(self, number, i):
        table = self.table
        if number == 3:
            origin, passed, cards = table.row(i)[0]
            return [origin, passed] + sorts_of(cards)
        if number == 4:
            return sorts_of(table.pools[i])
        if number == 6:
            return [len(cards) for _, _, cards in table.row(i)]
        if number == 11:
            held = [table.sorts[k][1] for k in sorts_of(table.pools[i])]
            return [sum(bits // value % 2 for bits in held) for value in (1, 2, 4, 8)]
        if number == 16:
            return [
                number for origin, passed, cards in table.row(i)
                for number in (origin, passed, len(cards), *sorts_of(cards))
            ]
        known = table.known(i)
        wanted = {8: ("took", "gone", "before it", "away"), 9: ("gone",), 10: ("away",)}[number]
        return second_pairs([card for card, what in known.items() if what in wanted])


def second_line(begun):
    line = SecondLine()
    line.answer(begun)
    return line


def right_pick(chance, table):
    """A pick or late by chance that is accepted, unless the drafting is over."""
    waiting = [i for i in range(table.n) if table.row(i)]
    if not waiting:
        return late(0)
    i = chance.choice(waiting)
    if chance.random() < 0.2:
        return late(i)
    return pick(i, *chance.sample(range(len(table.row(i)[0][2])), table.due(i)))


def play_on(chance, line, how_many=640):
    """Makes at most so many picks more on a second line; answers their calls."""
    calls = []
    while len(calls) < how_many and not line.table.over():
        calls.append(right_pick(chance, line.table))
        line.answer(calls[-1])
    return calls


def right_begin(chance):
    classes = chance.sample(range(4), chance.randint(1, 4))
    sorts = [(c, chance.randrange(16), chance.choice((1, 1, 2, 5, 20))) for c in classes]
    for _ in range(chance.choice((0, 1, 5, 20, 60))):
        sorts.append((chance.choice(classes), chance.randrange(16), chance.randint(1, 20)))
    chance.shuffle(sorts)
    recipe = [0, 0, 0, 0]
    for _ in range(chance.choice((1, 2, 3, 5, 8, 15, 20))):
        c = chance.choice(classes)
        recipe[c] = min(15, recipe[c] + 1)
    seed = chance.choice((0, 1, LARGEST, chance.randrange(LARGEST)))
    return begin(chance.randint(2, 8), recipe, chance.randint(1, 3), chance.randint(1, 4), seed, sorts)


def changed_begin(chance):
    """A begin with one or two of its numbers changed, or some of its list left out."""
    call = right_begin(chance)
    row = call[10:]
    for _ in range(chance.randint(1, 2)):
        place = chance.randrange(1, 9 + len(row))
        if place < 9:
            call[place] = chance.choice(EDGES)
        else:
            row[place - 9] = chance.choice(EDGES)
    if chance.random() < 0.3:
        row = (row * 7)[:chance.choice((0, 1, 2, 4, 191, 192, 193, 195))]
    return begin_with_row(call[1], call[2:6], call[6], call[7], call[8], row)


def any_pick(chance):
    places = [chance.choice((0, 1, 2, 3, 4, 7, 19, 20, -1)) for _ in range(chance.randint(0, 4))]
    return pick(chance.choice((0, 1, 2, 3, 5, 7, 8, -1)), *places)


def lines_from(chance, start, how_many):
    """The lines of a record of at most so many picks, made on this table."""
    line = SecondLine()
    line.start(start)
    play_on(chance, line, how_many)
    return line.record


def any_record(chance, line):
    """As text: the picks that were made, fewer or more of them, others; or one of these with a fault."""
    lines = list(line.record)
    draw = chance.random()
    if draw < 0.2:
        lines = lines[:chance.randrange(len(lines) + 1)]
    elif draw < 0.4:
        lines += lines_from(chance, line.table, chance.randint(1, 9))
    elif draw < 0.7:
        lines = lines_from(chance, (line.earlier + [line.table])[0], chance.choice((0, 1, 5, 30, 100)))
    elif draw < 0.8:
        lines.insert(chance.randrange(len(lines) + 1), chance.choice(("0 0\n", "9 0\n", "1 1\n", "0 1 2\n", "0 20\n")))
    elif draw < 0.85 and len(lines) > 1:
        place = chance.randrange(len(lines) - 1)
        lines[place:place + 2] = [lines[place + 1], lines[place]]
    text = "".join(lines)
    if chance.random() < 0.3:
        text = with_fault(chance, text)
    return text


def with_fault(chance, text):
    place = chance.randrange(len(text) + 1)
    sign = chance.choice("0123456789  \n\n\r\t/:-\x00\x85\xb2\xff")
    return text[:place] + chance.choice(("", sign)) + text[place + chance.randrange(2):]


def any_replay(chance, line):
    call = replay(any_record(chance, line))
    if chance.random() < 0.05:
        call[1] += 1
        call.insert(chance.randint(2, len(call)), chance.choice((-1, 256, LARGEST, -LARGEST)))
    return call


def next_call(chance, line):
    table = line.table
    draw = chance.random()
    if draw < 0.5:
        return right_pick(chance, table)
    if draw < 0.53:
        return any_pick(chance)
    if draw < 0.535:
        return right_begin(chance)
    if draw < 0.55:
        return changed_begin(chance)
    if draw < 0.58:
        return any_replay(chance, line)
    if draw < 0.62:
        made = len(line.record)
        return back(chance.choice((1, 1, 2, 3, chance.randint(1, 12), made, made + 1, 0, 1000, 1001, -1)))
    if draw < 0.68:
        return chance.choice((waits(), stands(), record()))
    if draw < 0.72:
        k = chance.randrange(64) if chance.random() < 0.3 else chance.randrange(len(table.sorts) + 1)
        return chance.choice((holders(k), holders(chance.choice((-1, 63, 64))), sheet(chance.randint(-1, 4))))
    call = chance.choice((late, see, pool, sizes, seen, gone, gone, gone, away, away, away, colours, truth))
    return call(chance.choice(EDGES) if draw > 0.99 else chance.randrange(max(1, table.n)))


def line_by_chance(chance, how_many, first=()):
    """So many calls of all eighteen kinds, behind these first ones."""
    line = SecondLine()
    calls = list(first)
    for call in calls:
        line.answer(call)
    # What is handed in has at most 16000 numbers; a replay has the most of them.
    room = 12000
    while len(calls) < how_many and room > 0:
        call = next_call(chance, line)
        calls.append(call)
        line.answer(call)
        room -= len(call)
    return calls
