"""Beating, pairs and candidates, over values turned so that more is better."""


class Side:
    """One of the lists that are joined: its measures' directions, its items' values, turned, and their keys."""

    def __init__(self, listing):
        self.ups = listing.ups
        self.rows = [turned(row, listing.ups) for row in listing.rows]
        self.item_keys = [0] * len(listing.rows)


def turned(row, ups):
    return [value if up else -value for value, up in zip(row, ups)]


def is_no_less(one, another):
    for mine, theirs in zip(one, another):
        if mine < theirs:
            return False
    return True


def beats(one, another):
    # Values that are no less anywhere and are not the same are greater somewhere.
    return one != another and is_no_less(one, another)


def is_unbeaten(values, rivals):
    for rival in rivals:
        if beats(rival, values):
            return False
    return True


def rows_with_key(side, wanted):
    return [row for row, key in zip(side.rows, side.item_keys) if key == wanted]


def unbeaten_marks(side):
    """For each item whether nobody with the same key in its own list beats it."""
    return [is_unbeaten(row, rows_with_key(side, key)) for row, key in zip(side.rows, side.item_keys)]


def best_items(side, wanted):
    """The items with this key that nobody with this key in their own list beats."""
    marks = unbeaten_marks(side)
    return [item for item, key in enumerate(side.item_keys) if key == wanted and marks[item]]


def shared_keys(first, second):
    """The keys that have pairs, in order."""
    return sorted(set(first.item_keys) & set(second.item_keys))


def pairs_of(first, second):
    found = []
    for i, wanted in enumerate(first.item_keys):
        found.extend([(i, j) for j, key in enumerate(second.item_keys) if key == wanted])
    return found


def candidates_of(first, second):
    first_marks = unbeaten_marks(first)
    second_marks = unbeaten_marks(second)
    return [(i, j) for i, j in pairs_of(first, second) if first_marks[i] and second_marks[j]]


def pair_values(first_row, second_row, added):
    """A pair's values; added are the measures to be added up, each a measure of either list."""
    alone = values_without(first_row, [one for one, two in added])
    alone.extend(values_without(second_row, [two for one, two in added]))
    return alone + [first_row[one] + second_row[two] for one, two in added]


def values_without(row, measures):
    return [value for measure, value in enumerate(row) if measure not in measures]


def unbeaten_among(first, second, added, pairs):
    values = [pair_values(first.rows[i], second.rows[j], added) for i, j in pairs]
    return [pair for pair, own in zip(pairs, values) if is_unbeaten(own, values)]
