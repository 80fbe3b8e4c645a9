"""The sheets that cards are printed on, and the chance that mixes them."""

CLASSES = 4

MULTIPLIER = 6364136223846793005
INCREMENT = 1442695040888963407
MODULUS = 18446744073709551616
# The low bits of such a chance repeat soon, so only what is above them is used.
LOW_BITS = 8589934592


class Sort:
    """What all cards of one sort have in common."""

    def __init__(self, class_number, colours, copies):
        self.class_number = class_number
        self.colours = colours
        self.copies = copies


class Chance:
    """A whole number that goes on from one use to the next."""

    def __init__(self, seed):
        self.x = seed

    def below(self, bound):
        self.x = (self.x * MULTIPLIER + INCREMENT) % MODULUS
        return self.x // LOW_BITS % bound


def printed_sheet(sorts, class_number):
    sheet = []
    for number, each in enumerate(sorts):
        if each.class_number == class_number:
            sheet.extend([number] * each.copies)
    return sheet


def mix(sheet, chance):
    for i in range(len(sheet) - 1, 0, -1):
        j = chance.below(i + 1)
        moved = sheet[i]
        sheet[i] = sheet[j]
        sheet[j] = moved


def mixed_sheets(sorts, seed):
    """One list of sort numbers for each class."""
    # One chance serves all sheets: each goes on where the one before it ended.
    chance = Chance(seed)
    sheets = []
    for class_number in range(CLASSES):
        sheet = printed_sheet(sorts, class_number)
        mix(sheet, chance)
        sheets.append(sheet)
    return sheets
