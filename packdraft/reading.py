"""How the calls stand in the one list that is handed in."""

# For each call, how many whole numbers stand behind its own number.
HOW_MANY_NUMBERS = (8, 1, 1, 1, 1, 0, 1, 0, 1, 1, 1, 1, 1, 0, 0, 1, 1, 1)
# The calls that end with a row: begin, pick, replay.
CALLS_WITH_ROW = (0, 1, 14)
PICK = 1


class Call:
    def __init__(self, number, numbers, row):
        self.number = number
        self.numbers = numbers
        self.row = row


class Reader:
    """Goes through the list, call by call."""

    def __init__(self, calls):
        self.calls = calls
        self.place = 0

    def has_more(self):
        return self.place < len(self.calls)

    def read_number(self):
        return self.read_numbers(1)[0]

    def read_numbers(self, how_many):
        numbers = self.calls[self.place:self.place + how_many]
        self.place += how_many
        return numbers

    def read_call(self):
        number = self.read_number()
        numbers = self.read_numbers(HOW_MANY_NUMBERS[number])
        row = []
        if number in CALLS_WITH_ROW:
            row = self.read_numbers(self.read_number())
        return Call(number, numbers, row)
