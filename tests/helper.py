"""What the tests share: how calls are written, and a second table.

The second table is made another way than the program: it has no rows of
packs. In one round the pack of origin o is taken from, for the s-th time, by
the seat that lies s steps from o; so all that waits, and all that was seen,
follows from how often each pack was taken from.
"""

from packdraft.table import answers

MULTIPLIER = 6364136223846793005
INCREMENT = 1442695040888963407
LARGEST = 10 ** 18


def begin(n=2, recipe=(3, 0, 0, 0), at_a_time=1, rounds=1, seed=0, sorts=((0, 0, 1),)):
    row = [number for each in sorts for number in each]
    return begin_with_row(n, recipe, at_a_time, rounds, seed, row)


def begin_with_row(n, recipe, at_a_time, rounds, seed, row):
    return [0, n, *recipe, at_a_time, rounds, seed, len(row), *row]


def pick(i, *places):
    return [1, i, len(places), *places]


def late(i):
    return [2, i]


def see(i):
    return [3, i]


def pool(i):
    return [4, i]


def waits():
    return [5]


def sizes(i):
    return [6, i]


def stands():
    return [7]


def seen(i):
    return [8, i]


def one_class(how_many, copies=1):
    """So many sorts, all of class 0."""
    return [(0, 0, copies)] * how_many


def told_of(n):
    """All that the calls 3 to 8 tell of a table with n seats."""
    calls = [waits(), stands()]
    for i in range(n):
        calls += [see(i), pool(i), sizes(i), seen(i)]
    return calls


def split(numbers):
    parts = []
    while numbers:
        parts.append(numbers[1:1 + numbers[0]])
        numbers = numbers[1 + numbers[0]:]
    return parts


def ask(*calls):
    """The answers to these calls on one new object, one list for each call."""
    assert 1 <= len(calls) <= 300
    parts = split(answers([number for call in calls for number in call]))
    assert len(parts) == len(calls)
    return parts


def last(*calls):
    return ask(*calls)[-1]


def chance_after(seed, steps):
    """The chance after so many steps, at once: the sum of a geometric row."""
    power = pow(MULTIPLIER, steps, (MULTIPLIER - 1) * 2 ** 64)
    return (power * seed + INCREMENT * ((power - 1) // (MULTIPLIER - 1))) % 2 ** 64


def second_sheets(sorts, seed):
    """Follows each place backwards through the exchanges to where its card came from."""
    sheets = []
    used = 0
    for wanted in range(4):
        printed = [k for k, each in enumerate(sorts) for _ in range(each[2]) if each[0] == wanted]
        partners = {}
        for i in range(len(printed) - 1, 0, -1):
            used += 1
            partners[i] = (chance_after(seed, used) >> 33) % (i + 1)
        sheets.append([printed[came_from(place, partners)] for place in range(len(printed))])
    return sheets


def came_from(place, partners):
    for i in sorted(partners):
        if place == i:
            place = partners[i]
        elif place == partners[i]:
            place = i
    return place


class SecondTable:
    def __init__(self, n, recipe, at_a_time, rounds, seed, sorts):
        self.n, self.recipe, self.at_a_time, self.rounds = n, recipe, at_a_time, rounds
        self.sheets = second_sheets(sorts, seed)
        self.size = sum(recipe)
        # For each opened pack what it held at first, after one taking, after two ...
        self.held = {}
        self.taken_in = {}
        self.pools = [[] for _ in range(n)]
        self.round = 0
        if n:
            self.start_round()

    def start_round(self):
        for origin in range(self.n):
            pack = self.round * self.n + origin
            drawn = []
            for sheet, how_many in zip(self.sheets, self.recipe):
                first = pack * how_many
                drawn += [sheet[k % len(sheet)] for k in range(first, first + how_many)]
            cards = [(pack * self.size + k, drawn[k]) for k in range(self.size)]
            self.held[self.round, origin] = [cards]
            self.taken_in[self.round, origin] = 0

    def over(self):
        return self.round == self.rounds

    def origin(self, which_round, i, steps):
        return (i - steps * (-1) ** which_round) % self.n

    def row(self, i):
        """For each pack that waits at seat i: its origin, how often it was passed, its cards."""
        waiting = []
        if self.over():
            return waiting
        steps = self.taken_in[self.round, i]
        while True:
            origin = self.origin(self.round, i, steps)
            held = self.held[self.round, origin]
            if len(held) != steps + 1 or not held[steps]:
                return waiting
            waiting.append((origin, steps, held[steps]))
            steps += 1

    def due(self, i):
        return min(self.at_a_time, len(self.row(i)[0][2]))

    def take(self, i, places):
        origin, steps, cards = self.row(i)[0]
        taken = [cards[place] for place in places]
        self.held[self.round, origin].append([card for card in cards if card not in taken])
        self.taken_in[self.round, i] += 1
        self.pools[i] += taken
        if not any(self.held[self.round, other][-1] for other in range(self.n)):
            self.round += 1
            if not self.over():
                self.start_round()
        return taken

    def seen(self, i):
        cards = set()
        for which_round in range(min(self.round + 1, self.rounds)):
            for steps in range(self.taken_in[which_round, i] + 1):
                held = self.held[which_round, self.origin(which_round, i, steps)]
                if steps < len(held):
                    cards |= set(held[steps])
        return cards


def sorts_of(cards):
    return [card[1] for card in cards]


def seat_refusals(table, i):
    due = set()
    if i < 0 or i > 7:
        due.add(-1)
    if not 0 <= i < table.n:
        due.add(-2)
    elif not table.row(i):
        due.add(-4)
    return due


def begin_refusals(call):
    n, recipe, at_a_time, rounds, seed, row = call[1], call[2:6], call[6], call[7], call[8], call[10:]
    due = set()
    wanted = [(n, 2, 8), (at_a_time, 1, 3), (rounds, 1, 4), (seed, 0, LARGEST), (sum(recipe), 1, 20)]
    wanted += [(number, 0, 15) for number in recipe]
    for place, number in enumerate(row):
        wanted.append((number, *((0, 3), (0, 15), (1, 20))[place % 3]))
    if any(number < least or number > most for number, least, most in wanted):
        due.add(-1)
    if len(row) not in range(3, 193, 3):
        due.add(-1)
    if any(how_many and c not in row[::3] for c, how_many in enumerate(recipe)):
        due.add(-6)
    return due


def pick_refusals(table, i, places):
    due = seat_refusals(table, i)
    if table.over():
        due.add(-3)
    if len(places) > 3 or any(place < 0 or place > 19 for place in places):
        due.add(-1)
    if not due:
        allowed = range(len(table.row(i)[0][2]))
        if len(places) != table.due(i) or len(set(places)) < len(places) or set(places) - set(allowed):
            due.add(-5)
    return due


class SecondLine:
    """Answers the calls 0 to 8 as the document tells, from the second table."""

    def __init__(self):
        self.table = SecondTable(0, (0, 0, 0, 0), 1, 0, 0, ())
        self.picks = 0

    def refusals(self, call):
        number = call[0]
        if number == 0:
            return begin_refusals(call)
        if number == 1:
            return pick_refusals(self.table, call[1], call[3:])
        if number in (5, 7):
            return set()
        due = seat_refusals(self.table, call[1])
        if number == 2 and self.table.over():
            due.add(-3)
        return due if number in (2, 3) else due - {-4}

    def answer(self, call):
        due = self.refusals(call)
        if due:
            return [max(due)]
        return [0] + (self.change(call) if call[0] < 3 else self.tell(call))

    def change(self, call):
        if call[0] == 0:
            sorts = list(zip(call[10::3], call[11::3], call[12::3]))
            self.table = SecondTable(call[1], call[2:6], call[6], call[7], call[8], sorts)
            self.picks = 0
            return [self.table.size]
        places = call[3:] if call[0] == 1 else list(range(self.table.due(call[1])))
        self.picks += 1
        return sorts_of(self.table.take(call[1], places))

    def tell(self, call):
        table, number = self.table, call[0]
        if number == 3:
            origin, passed, cards = table.row(call[1])[0]
            return [origin, passed] + sorts_of(cards)
        if number == 4:
            return sorts_of(table.pools[call[1]])
        if number == 5:
            return [len(table.row(i)) for i in range(table.n)]
        if number == 6:
            return [len(cards) for _, _, cards in table.row(call[1])]
        if number == 7:
            opened = len(table.held) * table.size
            return [table.n, table.round, int(table.over()), self.picks, opened]
        sorts = sorts_of(table.seen(call[1]))
        return [number for k in range(64) if k in sorts for number in (k, sorts.count(k))]
