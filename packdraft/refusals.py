"""Which refusal is due for a call: 0 where none is.

Where several are due, the one nearest to 0 is answered; so each function
asks for them in the order -1, -2, and so on. None changes anything.
"""

NONE_DUE = 0
OUT_OF_RANGE = -1
NOT_THERE = -2
DRAFT_OVER = -3
NO_PACK = -4
WRONG_PLACES = -5
TOO_FEW_PICKS = -5
CLASS_WITHOUT_SORT = -6

MOST_SEATS = 8
MOST_SORTS = 64
MOST_BYTES = 20000
LARGEST_SEED = 1000000000000000000


def within(number, least, most):
    return least <= number <= most


def all_within(numbers, least, most):
    return all([within(number, least, most) for number in numbers])


def none_due(draft, call):
    return NONE_DUE


def is_recipe(recipe):
    return all_within(recipe, 0, 15) and within(sum(recipe), 1, 20)


def is_sort_row(row):
    if len(row) % 3 != 0 or not within(len(row), 3, 3 * MOST_SORTS):
        return False
    return all_within(row[0::3], 0, 3) and all_within(row[1::3], 0, 15) and all_within(row[2::3], 1, 20)


def begin_refusal(draft, call):
    numbers = call.numbers
    recipe = numbers[1:5]
    right = within(numbers[0], 2, MOST_SEATS) and is_recipe(recipe) and within(numbers[5], 1, 3)
    right = right and within(numbers[6], 1, 4) and within(numbers[7], 0, LARGEST_SEED)
    if not right or not is_sort_row(call.row):
        return OUT_OF_RANGE
    classes = call.row[0::3]
    for class_number, how_many in enumerate(recipe):
        if how_many > 0 and class_number not in classes:
            return CLASS_WITHOUT_SORT
    return NONE_DUE


def missing_refusal(number, most, how_many):
    """Of a seat or a sort, which are numbered from 0 on."""
    if not within(number, 0, most - 1):
        return OUT_OF_RANGE
    if number >= how_many:
        return NOT_THERE
    return NONE_DUE


def seat_refusal(draft, call):
    return missing_refusal(call.numbers[0], MOST_SEATS, len(draft.seats))


def see_refusal(draft, call):
    refusal = seat_refusal(draft, call)
    if refusal == NONE_DUE and len(draft.seats[call.numbers[0]].row) == 0:
        return NO_PACK
    return refusal


def late_refusal(draft, call):
    refusal = seat_refusal(draft, call)
    if refusal == NONE_DUE and draft.is_over():
        return DRAFT_OVER
    return see_refusal(draft, call)


def pick_refusal(draft, call):
    # Ahead of the seat's own refusals: a wrong place is nearer to 0 than a missing seat.
    if len(call.row) > 3 or not all_within(call.row, 0, 19):
        return OUT_OF_RANGE
    refusal = late_refusal(draft, call)
    if refusal == NONE_DUE and not fits(draft, call.numbers[0], call.row):
        return WRONG_PLACES
    return refusal


def fits(draft, i, places):
    if len(places) != draft.due(i) or len(set(places)) != len(places):
        return False
    return max(places) < len(draft.seats[i].row[0].cards)


def sort_refusal(draft, call):
    return missing_refusal(call.numbers[0], MOST_SORTS, len(draft.setup.sorts))


def replay_refusal(draft, call):
    if len(call.row) > MOST_BYTES or not all_within(call.row, 0, 255):
        return OUT_OF_RANGE
    if len(draft.seats) == 0:
        return NOT_THERE
    return NONE_DUE


def back_refusal(draft, call):
    m = call.numbers[0]
    if not within(m, 1, 1000):
        return OUT_OF_RANGE
    if m > len(draft.picks):
        return TOO_FEW_PICKS
    return NONE_DUE


def sheet_refusal(draft, call):
    if not within(call.numbers[0], 0, 3):
        return OUT_OF_RANGE
    return NONE_DUE


# In the order of the calls' numbers.
REFUSALS = (
    begin_refusal, pick_refusal, late_refusal, see_refusal, seat_refusal, none_due, seat_refusal, none_due,
    seat_refusal, seat_refusal, seat_refusal, seat_refusal, sort_refusal, none_due, replay_refusal, back_refusal,
    seat_refusal, sheet_refusal,
)


def refusal_of(draft, call):
    refusal = REFUSALS[call.number]
    return refusal(draft, call)
