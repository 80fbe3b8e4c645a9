"""The table: its seats, and the packs that go round."""


class Pack:
    def __init__(self, origin, cards):
        self.origin = origin
        self.cards = cards
        self.passed = 0


class Seat:
    """A row of waiting packs, the cards taken, and the cards seen."""

    def __init__(self):
        self.row = []
        self.pool = []
        # Keyed by card, so that a card that comes round again counts once.
        self.looked_at = {}

    def look(self):
        for card in self.row[0].cards:
            self.looked_at[card] = True

    def receive(self, pack):
        self.row.append(pack)
        if len(self.row) == 1:
            self.look()

    def release(self):
        pack = self.row.pop(0)
        if len(self.row) > 0:
            self.look()
        return pack


class Draft:
    """One table from its begin on; a table without seats is none at all."""

    def __init__(self, how_many_seats, recipe, at_a_time, rounds, sheets):
        self.seats = [Seat() for number in range(how_many_seats)]
        self.recipe = recipe
        self.at_a_time = at_a_time
        self.rounds = rounds
        self.sheets = sheets
        self.sheet_places = [0 for sheet in sheets]
        self.round_number = 0
        self.picks = 0
        # The sort of card 1 stands first, that of card 2 next, and so on.
        self.card_sorts = []

    def is_over(self):
        return self.round_number == self.rounds

    def sorts_of(self, cards):
        return [self.card_sorts[card - 1] for card in cards]

    def next_sort(self, class_number):
        sheet = self.sheets[class_number]
        place = self.sheet_places[class_number]
        self.sheet_places[class_number] = (place + 1) % len(sheet)
        return sheet[place]

    def new_cards(self):
        cards = []
        for class_number, how_many in enumerate(self.recipe):
            for turn in range(how_many):
                self.card_sorts.append(self.next_sort(class_number))
                cards.append(len(self.card_sorts))
        return cards

    def open_round(self):
        for origin, seat in enumerate(self.seats):
            seat.receive(Pack(origin, self.new_cards()))

    def due(self, i):
        """How many cards seat i has to take of its first pack."""
        return min(self.at_a_time, len(self.seats[i].row[0].cards))

    def neighbour(self, i):
        n = len(self.seats)
        if self.round_number % 2 == 0:
            return (i + 1) % n
        return (i + n - 1) % n

    def take(self, i, places):
        """Take these places of the first pack of seat i; answer the cards."""
        seat = self.seats[i]
        pack = seat.release()
        taken = [pack.cards[place] for place in places]
        seat.pool.extend(taken)
        pack.cards = [card for place, card in enumerate(pack.cards) if place not in places]
        self.picks += 1
        if len(pack.cards) > 0:
            pack.passed += 1
            self.seats[self.neighbour(i)].receive(pack)
        self.end_round_if_empty()
        return taken

    def end_round_if_empty(self):
        if any([len(seat.row) > 0 for seat in self.seats]):
            return
        self.round_number += 1
        if not self.is_over():
            self.open_round()


def no_draft():
    """What there is ahead of the first begin: no seats, and over."""
    return Draft(0, [], 0, 0, [])
