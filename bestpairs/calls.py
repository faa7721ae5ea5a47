"""The calls, each on what is held and with what is given: its whole numbers, then its rows."""

from bestpairs.faults import Fault
from bestpairs.listing import listing_of
from bestpairs.pairs import Side, candidates_of, pairs_of, unbeaten_among

LOAD = 0
FIRST = 0
SECOND = 1
GREATEST_KEY = 7

NO_LIST = -1
NO_SUCH = -2
WRONG_MEASURES = -3
WRONG_KEYS = -4
UNLIKE = -5
NO_OTHER_LIST = -6


class Held:
    """What the calls work on: none, one or both lists, and the measures that are added up."""

    def __init__(self):
        self.sides = []
        self.added = []


def has_other(held):
    return len(held.sides) > SECOND


def answer_load(held, given):
    return take_list(held, FIRST, given[0])


def answer_other(held, given):
    return take_list(held, SECOND, given[0])


def take_list(held, which, text):
    try:
        listing = listing_of(text)
    except Fault as fault:
        return [0, fault.code, fault.place]
    # Only what stands ahead of the new list stays: a new first one leaves no second.
    held.sides = held.sides[:which] + [Side(listing)]
    held.added = []
    return [1, len(listing.ups), len(listing.rows)]


def answer_keys(held, given):
    which = given[0]
    keys = given[1]
    if which != FIRST and which != SECOND:
        return [NO_SUCH]
    if which == SECOND and not has_other(held):
        return [NO_OTHER_LIST]
    side = held.sides[which]
    if len(keys) != len(side.rows) or not all([0 <= key <= GREATEST_KEY for key in keys]):
        return [WRONG_KEYS]
    side.item_keys = keys
    return [1]


def answer_sums(held, given):
    if not has_other(held):
        return [NO_OTHER_LIST]
    first_ups = held.sides[FIRST].ups
    second_ups = held.sides[SECOND].ups
    if len(given[0]) != len(given[1]):
        return [WRONG_MEASURES]
    if not are_measures(given[0], first_ups) or not are_measures(given[1], second_ups):
        return [WRONG_MEASURES]
    added = list(zip(given[0], given[1]))
    if any([first_ups[one] != second_ups[two] for one, two in added]):
        return [UNLIKE]
    held.added = added
    return [len(first_ups) + len(second_ups) - len(added)]


def are_measures(numbers, ups):
    """Whether each is a measure of the list with these directions, and none is told twice."""
    return len(set(numbers)) == len(numbers) and all([0 <= number < len(ups) for number in numbers])


def answer_join(held, given):
    if not has_other(held):
        return [NO_OTHER_LIST]
    first = held.sides[FIRST]
    second = held.sides[SECOND]
    candidates = candidates_of(first, second)
    unbeaten = unbeaten_among(first, second, held.added, candidates)
    told = [len(pairs_of(first, second)), len(candidates), len(unbeaten)]
    for pair in unbeaten:
        told.extend(pair)
    return told


# By a call's number: what answers it, how many whole numbers and how many rows it is given.
CALLS = (
    (answer_load, 0, 1),
    (answer_other, 0, 1),
    (answer_keys, 1, 1),
    (answer_sums, 0, 2),
    (answer_join, 0, 0),
)


def count_numbers(call):
    return CALLS[call][1]


def count_rows(call):
    return CALLS[call][2]


def answer(held, call, given):
    if call != LOAD and len(held.sides) == 0:
        return [NO_LIST]
    answer_call = CALLS[call][0]
    return answer_call(held, given)
