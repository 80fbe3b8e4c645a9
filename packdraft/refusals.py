"""Which refusal is due for a call: 0 where none is.

Where several are due, the one nearest to 0 is answered; so each function
asks for them in the order -1, -2, and so on.
"""

NONE_DUE = 0
OUT_OF_RANGE = -1
NO_SUCH_SEAT = -2
DRAFT_OVER = -3
NO_PACK = -4
WRONG_PLACES = -5
CLASS_WITHOUT_SORT = -6

MOST_SORTS = 64
LARGEST_SEED = 1000000000000000000


def within(number, least, most):
    return least <= number <= most


def all_within(numbers, least, most):
    return all([within(number, least, most) for number in numbers])


def is_recipe(recipe):
    return all_within(recipe, 0, 15) and within(sum(recipe), 1, 20)


def is_sort_row(row):
    if len(row) % 3 != 0 or not within(len(row), 3, 3 * MOST_SORTS):
        return False
    return all_within(row[0::3], 0, 3) and all_within(row[1::3], 0, 15) and all_within(row[2::3], 1, 20)


def begin_refusal(numbers, row):
    recipe = numbers[1:5]
    right = within(numbers[0], 2, 8) and is_recipe(recipe) and within(numbers[5], 1, 3)
    right = right and within(numbers[6], 1, 4) and within(numbers[7], 0, LARGEST_SEED)
    if not right or not is_sort_row(row):
        return OUT_OF_RANGE
    classes = row[0::3]
    for class_number, how_many in enumerate(recipe):
        if how_many > 0 and class_number not in classes:
            return CLASS_WITHOUT_SORT
    return NONE_DUE


def seat_refusal(draft, i):
    if not within(i, 0, 7):
        return OUT_OF_RANGE
    if i >= len(draft.seats):
        return NO_SUCH_SEAT
    return NONE_DUE


def see_refusal(draft, i):
    refusal = seat_refusal(draft, i)
    if refusal == NONE_DUE and len(draft.seats[i].row) == 0:
        return NO_PACK
    return refusal


def late_refusal(draft, i):
    refusal = seat_refusal(draft, i)
    if refusal == NONE_DUE and draft.is_over():
        return DRAFT_OVER
    if refusal == NONE_DUE:
        return see_refusal(draft, i)
    return refusal


def pick_refusal(draft, i, places):
    # Ahead of the seat's own refusals: a wrong place is nearer to 0 than a missing seat.
    if len(places) > 3 or not all_within(places, 0, 19):
        return OUT_OF_RANGE
    refusal = late_refusal(draft, i)
    if refusal == NONE_DUE and not fits(draft, i, places):
        return WRONG_PLACES
    return refusal


def fits(draft, i, places):
    if len(places) != draft.due(i) or len(set(places)) != len(places):
        return False
    return max(places) < len(draft.seats[i].row[0].cards)
