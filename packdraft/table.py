"""The calls on a table, and their answers.

The function of a call is asked only where no refusal is due, and tells what
stands behind the 0.
"""

from packdraft.draft import Draft, Setup, no_draft, played
from packdraft.reading import Reader
from packdraft.records import first_wrong_line, read_record, written_record
from packdraft.refusals import refusal_of
from packdraft.sheets import Sort

COLOURS = (1, 2, 4, 8)


class Line:
    """Keeps the table of one line of calls; begin, replay and back put a new one there."""

    def __init__(self):
        self.draft = no_draft()


def pairs(sorts):
    counts = {}
    for number in sorted(sorts):
        counts[number] = counts.get(number, 0) + 1
    told = []
    for number, how_many in counts.items():
        told.extend([number, how_many])
    return told


def read_sorts(row):
    return [Sort(row[k], row[k + 1], row[k + 2]) for k in range(0, len(row), 3)]


def seat_of(line, call):
    return line.draft.seats[call.numbers[0]]


def begin(line, call):
    numbers = call.numbers
    recipe = numbers[1:5]
    setup = Setup(numbers[0], recipe, numbers[5], numbers[6], numbers[7], read_sorts(call.row))
    line.draft = Draft(setup)
    return [sum(recipe)]


def pick(line, call):
    return line.draft.sorts_of(line.draft.take(call.numbers[0], call.row))


def late(line, call):
    i = call.numbers[0]
    places = list(range(line.draft.due(i)))
    return line.draft.sorts_of(line.draft.take(i, places))


def see(line, call):
    pack = seat_of(line, call).row[0]
    return [pack.origin, pack.passed] + line.draft.sorts_of(pack.cards)


def pool(line, call):
    return line.draft.sorts_of(seat_of(line, call).pool)


def waits(line, call):
    return [len(seat.row) for seat in line.draft.seats]


def sizes(line, call):
    return [len(pack.cards) for pack in seat_of(line, call).row]


def stands(line, call):
    draft = line.draft
    over = 1 if draft.is_over() else 0
    return [len(draft.seats), draft.round_number, over, len(draft.picks), len(draft.card_sorts)]


def seen(line, call):
    return pairs(line.draft.sorts_of(seat_of(line, call).cards_seen()))


def gone(line, call):
    return pairs(line.draft.sorts_of(seat_of(line, call).cards_gone()))


def away(line, call):
    return pairs(line.draft.sorts_of(seat_of(line, call).cards_away()))


def colours(line, call):
    held = [line.draft.setup.sorts[number].colours for number in pool(line, call)]
    counts = []
    for colour in COLOURS:
        counts.append(len([each for each in held if each & colour == colour]))
    return counts


def holders(line, call):
    k = call.numbers[0]
    return [line.draft.sorts_of(seat.pool).count(k) for seat in line.draft.seats]


def record(line, call):
    return written_record(line.draft.picks)


def replay(line, call):
    wrong_line = first_wrong_line(call.row)
    if wrong_line > 0:
        return [1, wrong_line]
    # A table of its own: the one that's there stays unless all picks are accepted.
    draft = Draft(line.draft.setup)
    for number, told in enumerate(read_record(call.row), start=1):
        if refusal_of(draft, told) < 0:
            return [2, number]
        draft.take(told.numbers[0], told.row)
    line.draft = draft
    return [0]


def back(line, call):
    picks = line.draft.picks
    left = picks[:len(picks) - call.numbers[0]]
    line.draft = played(line.draft.setup, left)
    return [len(left)]


def truth(line, call):
    told = []
    for pack in seat_of(line, call).row:
        told.extend([pack.origin, pack.passed, len(pack.cards)])
        told.extend(line.draft.sorts_of(pack.cards))
    return told


def sheet(line, call):
    return line.draft.setup.sheets[call.numbers[0]]


# In the order of the calls' numbers.
CALLS = (
    begin, pick, late, see, pool, waits, sizes, stands, seen, gone, away, colours, holders, record, replay, back,
    truth, sheet,
)


def answer_to(line, call):
    refusal = refusal_of(line.draft, call)
    if refusal < 0:
        return [refusal]
    tell = CALLS[call.number]
    return [0] + tell(line, call)


def answers(calls):
    reader = Reader(calls)
    line = Line()
    given_back = []
    while reader.has_more():
        answer = answer_to(line, reader.read_call())
        given_back.append(len(answer))
        given_back.extend(answer)
    return given_back
