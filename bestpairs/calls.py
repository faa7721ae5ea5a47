"""The calls, each on what is held and with what is given: its whole numbers, then its rows."""

from bestpairs.faults import Fault
from bestpairs.listing import listing_of
from bestpairs.pairs import Side, beats, best_items, candidates_of, pair_values, pairs_of, shared_keys, unbeaten_among
from bestpairs.preferences import Preferences, liked_among

LOAD = 0
FIRST = 0
SECOND = 1
GREATEST_KEY = 7

NO_LIST = -1
NO_SUCH = -2
WRONG_MEASURES = -3
WRONG_KEYS = -4
UNLIKE = -5
NO_OTHER_LIST = -6
OVER_ITSELF = -8


class Held:
    """What the calls work on: none, one or both lists, the measures that are added up, and preferences."""

    def __init__(self):
        self.sides = []
        self.added = []
        self.preferences = Preferences()


def has_other(held):
    return len(held.sides) > SECOND


def answer_load(held, given):
    return take_list(held, FIRST, given[0])


def answer_other(held, given):
    return take_list(held, SECOND, given[0])


def take_list(held, which, text):
    try:
        listing = listing_of(text)
    except Fault as fault:
        return [0, fault.code, fault.place]
    # Only what stands ahead of the new list stays: a new first one leaves no second.
    held.sides = held.sides[:which] + [Side(listing)]
    held.added = []
    if which == FIRST:
        held.preferences = Preferences()
    return [1, len(listing.ups), len(listing.rows)]


def is_key(number):
    return 0 <= number <= GREATEST_KEY


def answer_keys(held, given):
    which = given[0]
    keys = given[1]
    if which != FIRST and which != SECOND:
        return [NO_SUCH]
    if which == SECOND and not has_other(held):
        return [NO_OTHER_LIST]
    side = held.sides[which]
    if len(keys) != len(side.rows) or not all([is_key(key) for key in keys]):
        return [WRONG_KEYS]
    side.item_keys = keys
    return [1]


def answer_sums(held, given):
    first_ups = held.sides[FIRST].ups
    second_ups = held.sides[SECOND].ups
    if len(given[0]) != len(given[1]):
        return [WRONG_MEASURES]
    if not are_measures(given[0], first_ups) or not are_measures(given[1], second_ups):
        return [WRONG_MEASURES]
    added = list(zip(given[0], given[1]))
    if any([first_ups[one] != second_ups[two] for one, two in added]):
        return [UNLIKE]
    held.added = added
    return [len(first_ups) + len(second_ups) - len(added)]


def are_measures(numbers, ups):
    """Whether each is a measure of the list with these directions, and none is told twice."""
    return len(set(numbers)) == len(numbers) and all([0 <= number < len(ups) for number in numbers])


def flat(pairs):
    numbers = []
    for pair in pairs:
        numbers.extend(pair)
    return numbers


def answer_join(held, given):
    first = held.sides[FIRST]
    second = held.sides[SECOND]
    candidates = candidates_of(first, second)
    unbeaten = unbeaten_among(first, second, held.added, candidates)
    return [len(pairs_of(first, second)), len(candidates), len(unbeaten)] + flat(unbeaten)


def answer_pair(held, given):
    first = held.sides[FIRST]
    second = held.sides[SECOND]
    i = given[0]
    j = given[1]
    if not 0 <= i < len(first.rows) or not 0 <= j < len(second.rows):
        return [NO_SUCH]
    if first.item_keys[i] != second.item_keys[j]:
        return [UNLIKE]
    own = pair_values(first.rows[i], second.rows[j], held.added)
    # A pair that is beaten at all is beaten by an unbeaten one, so no others are looked at.
    for rival in unbeaten_among(first, second, held.added, candidates_of(first, second)):
        if beats(pair_values(first.rows[rival[0]], second.rows[rival[1]], held.added), own):
            return [0] + list(rival) + own
    return [1] + own


def answer_prefer(held, given):
    one = given[0]
    another = given[1]
    if not is_key(one) or not is_key(another):
        return [WRONG_KEYS]
    if held.preferences.would_turn_round(one, another):
        return [OVER_ITSELF]
    held.preferences.tell(one, another)
    return [len(held.preferences.following)]


def answer_liked(held, given):
    first = held.sides[FIRST]
    second = held.sides[SECOND]
    liked = liked_among(first, second, held.added, held.preferences, candidates_of(first, second))
    return [len(liked)] + flat(liked)


def answer_groups(held, given):
    shared = shared_keys(held.sides[FIRST], held.sides[SECOND])
    told = [len(shared)]
    for key in shared:
        told.append(key)
        for side in held.sides:
            best = best_items(side, key)
            told.append(len(best))
            told.extend(best)
    return told


def answer_forget(held, given):
    count = held.preferences.told_count
    held.preferences = Preferences()
    return [count]


# By a call's number: what answers it, how many whole numbers and how many rows it is given, and whether it is
# refused ahead of all else it refuses if there is no other list.
CALLS = (
    (answer_load, 0, 1, False),
    (answer_other, 0, 1, False),
    (answer_keys, 1, 1, False),
    (answer_sums, 0, 2, True),
    (answer_join, 0, 0, True),
    (answer_pair, 2, 0, True),
    (answer_prefer, 2, 0, False),
    (answer_liked, 0, 0, True),
    (answer_groups, 0, 0, True),
    (answer_forget, 0, 0, False),
)


def count_numbers(call):
    return CALLS[call][1]


def count_rows(call):
    return CALLS[call][2]


def needs_other(call):
    return CALLS[call][3]


def answer(held, call, given):
    if call != LOAD and len(held.sides) == 0:
        return [NO_LIST]
    if needs_other(call) and not has_other(held):
        return [NO_OTHER_LIST]
    answer_call = CALLS[call][0]
    return answer_call(held, given)
