"""The table: its seats, and the packs that go round."""

from packdraft.sheets import mixed_sheets


class Pack:
    """Its list of cards is never changed, only put in another's place: a look may keep it."""

    def __init__(self, number, origin, cards):
        self.number = number
        self.origin = origin
        self.cards = cards
        self.passed = 0


class Seat:
    """A row of waiting packs, the cards taken, and what was looked at.

    A pack only gets smaller. So the first look at it shows all of its cards
    that the seat ever sees, and the last look those of them that aren't gone.
    """

    def __init__(self):
        self.row = []
        self.pool = []
        # Both keyed by the pack's number, which no pack of another round has.
        self.first_looks = {}
        self.last_looks = {}

    def look(self):
        pack = self.row[0]
        self.first_looks.setdefault(pack.number, pack.cards)
        self.last_looks[pack.number] = pack.cards

    def receive(self, pack):
        self.row.append(pack)
        if len(self.row) == 1:
            self.look()

    def release(self):
        pack = self.row.pop(0)
        if len(self.row) > 0:
            self.look()
        return pack

    def cards_before(self):
        return self.row[0].cards if len(self.row) > 0 else []

    def cards_seen(self):
        return joined(self.first_looks)

    def cards_gone(self):
        return sorted(set(self.cards_seen()) - set(joined(self.last_looks)) - set(self.pool))

    def cards_away(self):
        return sorted(set(joined(self.last_looks)) - set(self.cards_before()) - set(self.pool))


def joined(looks):
    cards = []
    for shown in looks.values():
        cards.extend(shown)
    return cards


class Setup:
    """What begin tells of a table; no pick changes it."""

    def __init__(self, how_many_seats, recipe, at_a_time, rounds, seed, sorts):
        self.how_many_seats = how_many_seats
        self.recipe = recipe
        self.at_a_time = at_a_time
        self.rounds = rounds
        self.sorts = sorts
        self.sheets = mixed_sheets(sorts, seed)


class Draft:
    """One table, at first as after its begin; a table without seats is none at all."""

    def __init__(self, setup):
        self.setup = setup
        self.seats = [Seat() for number in range(setup.how_many_seats)]
        self.sheet_places = [0 for sheet in setup.sheets]
        self.round_number = 0
        # Each is the seat's number and its list of places.
        self.picks = []
        # The sort of card 1 stands first, that of card 2 next, and so on.
        self.card_sorts = []
        self.open_round()

    def is_over(self):
        return self.round_number == self.setup.rounds

    def sorts_of(self, cards):
        return [self.card_sorts[card - 1] for card in cards]

    def next_sort(self, class_number):
        sheet = self.setup.sheets[class_number]
        place = self.sheet_places[class_number]
        self.sheet_places[class_number] = (place + 1) % len(sheet)
        return sheet[place]

    def new_cards(self):
        cards = []
        for class_number, how_many in enumerate(self.setup.recipe):
            for turn in range(how_many):
                self.card_sorts.append(self.next_sort(class_number))
                cards.append(len(self.card_sorts))
        return cards

    def open_round(self):
        first_number = self.round_number * len(self.seats)
        for origin, seat in enumerate(self.seats):
            seat.receive(Pack(first_number + origin, origin, self.new_cards()))

    def due(self, i):
        """How many cards seat i has to take of its first pack."""
        return min(self.setup.at_a_time, len(self.seats[i].row[0].cards))

    def neighbour(self, i):
        n = len(self.seats)
        if self.round_number % 2 == 0:
            return (i + 1) % n
        return (i + n - 1) % n

    def take(self, i, places):
        """Take these places of the first pack of seat i; answer the cards."""
        seat = self.seats[i]
        pack = seat.release()
        taken = [pack.cards[place] for place in places]
        seat.pool.extend(taken)
        pack.cards = [card for place, card in enumerate(pack.cards) if place not in places]
        self.picks.append((i, places))
        if len(pack.cards) > 0:
            pack.passed += 1
            self.seats[self.neighbour(i)].receive(pack)
        else:
            self.end_round_if_empty()
        return taken

    def end_round_if_empty(self):
        if any([len(seat.row) > 0 for seat in self.seats]):
            return
        self.round_number += 1
        if not self.is_over():
            self.open_round()


def no_draft():
    """What there is ahead of the first begin: no seats, no sorts, and over."""
    return Draft(Setup(0, [], 0, 0, 0, []))


def played(setup, picks):
    """The table as after its begin, with these picks made."""
    draft = Draft(setup)
    for i, places in picks:
        draft.take(i, places)
    return draft
