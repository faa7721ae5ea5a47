"""Keys preferred to one another, and the pairs that are liked."""

from bestpairs.pairs import is_no_less, pair_values


class Preferences:
    """How many were told, and all that follow, with those told: two keys each, the preferred one first."""

    def __init__(self):
        self.told_count = 0
        self.following = []

    def is_preferred(self, one, another):
        return (one, another) in self.following

    def would_turn_round(self, one, another):
        """Whether a key would be preferred to itself if one were preferred to another."""
        return one == another or self.is_preferred(another, one)

    def tell(self, one, another):
        # Each telling counts, though one told again adds nothing to what follows.
        self.told_count += 1
        above = [one] + [upper for upper, lower in self.following if lower == one]
        below = [another] + [lower for upper, lower in self.following if upper == another]
        for upper in above:
            self.following.extend([(upper, lower) for lower in below if not self.is_preferred(upper, lower)])


def is_liked_better(rival, own, preferences):
    """Whether a pair is liked better than another one; of each its key and its values."""
    if rival == own or not is_no_less(rival[1], own[1]):
        return False
    return rival[0] == own[0] or preferences.is_preferred(rival[0], own[0])


def is_liked(own, rivals, preferences):
    for rival in rivals:
        if is_liked_better(rival, own, preferences):
            return False
    return True


def liked_among(first, second, added, preferences, pairs):
    seen = [(first.item_keys[i], pair_values(first.rows[i], second.rows[j], added)) for i, j in pairs]
    return [pair for pair, own in zip(pairs, seen) if is_liked(own, seen, preferences)]
