"""The record: the picks as lines of bytes, written and read."""

from packdraft.reading import PICK, Call
from packdraft.refusals import all_within, within

LINE_END = 10
BLANK = 32
DIGIT_0 = 48
DIGIT_9 = 57


def written_number(number):
    return [ord(sign) for sign in str(number)]


def written_pick(i, places):
    line = written_number(i)
    for place in places:
        line.append(BLANK)
        line.extend(written_number(place))
    line.append(LINE_END)
    return line


def written_record(picks):
    record = []
    for i, places in picks:
        record.extend(written_pick(i, places))
    return record


def cut(numbers, mark):
    """The parts between the marks, empty ones too: one more than there are marks."""
    parts = [[]]
    for number in numbers:
        if number == mark:
            parts.append([])
        else:
            parts[-1].append(number)
    return parts


def is_number(digits):
    if not within(len(digits), 1, 2) or not all_within(digits, DIGIT_0, DIGIT_9):
        return False
    return len(digits) == 1 or digits[0] != DIGIT_0


def is_pick_line(line):
    parts = cut(line, BLANK)
    return within(len(parts), 2, 4) and all([is_number(part) for part in parts])


def first_wrong_line(record):
    """The number of the first line that isn't a pick's, counted from 1; 0 where all are."""
    parts = cut(record, LINE_END)
    for number, line in enumerate(parts[:-1], start=1):
        if not is_pick_line(line):
            return number
    # What stands behind the last end of a line has no end itself.
    return len(parts) if len(parts[-1]) > 0 else 0


def read_number(digits):
    number = 0
    for digit in digits:
        number = 10 * number + digit - DIGIT_0
    return number


def read_pick(line):
    numbers = [read_number(part) for part in cut(line, BLANK)]
    return Call(PICK, [numbers[0]], numbers[1:])


def read_record(record):
    """The calls that make the picks, of a record whose lines are all right."""
    return [read_pick(line) for line in cut(record, LINE_END)[:-1]]
