"""The calls on a table, and their answers."""

from packdraft.draft import Draft, no_draft
from packdraft.reading import Reader
from packdraft.refusals import begin_refusal, late_refusal, pick_refusal, seat_refusal, see_refusal
from packdraft.sheets import Sort, mixed_sheets


class Line:
    """Keeps the table of one line of calls; begin puts a new one there."""

    def __init__(self):
        self.draft = no_draft()


def pairs(sorts):
    counts = {}
    for number in sorted(sorts):
        counts[number] = counts.get(number, 0) + 1
    answer = []
    for number, how_many in counts.items():
        answer.extend([number, how_many])
    return answer


def read_sorts(row):
    return [Sort(row[k], row[k + 1], row[k + 2]) for k in range(0, len(row), 3)]


def begin(line, call):
    numbers = call.numbers
    refusal = begin_refusal(numbers, call.row)
    if refusal < 0:
        return [refusal]
    recipe = numbers[1:5]
    sheets = mixed_sheets(read_sorts(call.row), numbers[7])
    line.draft = Draft(numbers[0], recipe, numbers[5], numbers[6], sheets)
    line.draft.open_round()
    return [0, sum(recipe)]


def pick(line, call):
    i = call.numbers[0]
    refusal = pick_refusal(line.draft, i, call.row)
    if refusal < 0:
        return [refusal]
    return [0] + line.draft.sorts_of(line.draft.take(i, call.row))


def late(line, call):
    i = call.numbers[0]
    refusal = late_refusal(line.draft, i)
    if refusal < 0:
        return [refusal]
    places = list(range(line.draft.due(i)))
    return [0] + line.draft.sorts_of(line.draft.take(i, places))


def see(line, call):
    i = call.numbers[0]
    refusal = see_refusal(line.draft, i)
    if refusal < 0:
        return [refusal]
    pack = line.draft.seats[i].row[0]
    return [0, pack.origin, pack.passed] + line.draft.sorts_of(pack.cards)


def pool(line, call):
    i = call.numbers[0]
    refusal = seat_refusal(line.draft, i)
    if refusal < 0:
        return [refusal]
    return [0] + line.draft.sorts_of(line.draft.seats[i].pool)


def waits(line, call):
    return [0] + [len(seat.row) for seat in line.draft.seats]


def sizes(line, call):
    i = call.numbers[0]
    refusal = seat_refusal(line.draft, i)
    if refusal < 0:
        return [refusal]
    return [0] + [len(pack.cards) for pack in line.draft.seats[i].row]


def stands(line, call):
    draft = line.draft
    over = 1 if draft.is_over() else 0
    return [0, len(draft.seats), draft.round_number, over, draft.picks, len(draft.card_sorts)]


def seen(line, call):
    i = call.numbers[0]
    refusal = seat_refusal(line.draft, i)
    if refusal < 0:
        return [refusal]
    return [0] + pairs(line.draft.sorts_of(list(line.draft.seats[i].looked_at)))


# In the order of the calls' numbers.
HANDLERS = (begin, pick, late, see, pool, waits, sizes, stands, seen)


def answer_to(line, call):
    # The calls 9 to 17 are read, but not written yet: no number is answered.
    if call.number >= len(HANDLERS):
        return []
    handler = HANDLERS[call.number]
    return handler(line, call)


def answers(calls):
    reader = Reader(calls)
    line = Line()
    given_back = []
    while reader.has_more():
        answer = answer_to(line, reader.read_call())
        given_back.append(len(answer))
        given_back.extend(answer)
    return given_back
