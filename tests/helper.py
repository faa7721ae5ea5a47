"""Calls written and answers read for the tests, and a plain join to hold the program's against."""

from bestpairs.joins import answers


def as_bytes(text):
    return list(text.encode("utf-8")) if isinstance(text, str) else list(text)


def row(numbers):
    return [len(numbers)] + list(numbers)


def load(text):
    return [0] + row(as_bytes(text))


def other(text):
    return [1] + row(as_bytes(text))


def keys(which, given):
    return [2, which] + row(given)


def sums(first, second):
    return [3] + row(first) + row(second)


def join():
    return [4]


def parted(told):
    """What `answers` gives back, as one list for each call."""
    found = []
    place = 0
    while place < len(told):
        end = place + 1 + told[place]
        if end > len(told):
            raise AssertionError("an answer ends too early")
        found.append(told[place + 1:end])
        place = end
    return found


def ask(*calls):
    """The answers to these calls, one list for each."""
    found = parted(answers([number for call in calls for number in call]))
    if len(found) != len(calls):
        raise AssertionError(f"{len(calls)} calls, {len(found)} answers")
    return found


def last(*calls):
    return ask(*calls)[-1]


def list_text(ups, rows):
    """A list in its one form, with names made up."""
    measures = ", ".join(f"m{k} {'up' if up else 'down'}" for k, up in enumerate(ups))
    lines = [f"measures {measures} ;\n"]
    for k, values in enumerate(rows):
        lines.append(f"item i{k} : {', '.join(str(value) for value in values)} ;\n")
    return "".join(lines)


class Case:
    """Two lists with keys and sums, as numbers."""

    def __init__(self, first_ups, first, first_keys, second_ups, second, second_keys, added=()):
        self.ups = (first_ups, second_ups)
        self.rows = (first, second)
        self.keys = (first_keys, second_keys)
        self.added = list(added)

    def calls(self):
        return [
            load(list_text(self.ups[0], self.rows[0])),
            other(list_text(self.ups[1], self.rows[1])),
            keys(0, self.keys[0]),
            keys(1, self.keys[1]),
            sums([one for one, two in self.added], [two for one, two in self.added]),
        ]

    def joined(self):
        """The program's answer to join."""
        found = ask(*self.calls(), join())
        if any(answered[0] < 0 for answered in found) or found[0][0] != 1 or found[1][0] != 1:
            raise AssertionError(f"not taken: {found}")
        return found[-1]

    def item_beats(self, side, one, another):
        """Whether an item beats another one, straight from the words."""
        better = False
        for up, mine, theirs in zip(self.ups[side], self.rows[side][one], self.rows[side][another]):
            if (mine < theirs) if up else (mine > theirs):
                return False
            better = better or mine != theirs
        return better

    def has_better_namesake(self, side, item):
        """Whether another item with the same key in the same list beats this one."""
        return any(
            self.keys[side][rival] == self.keys[side][item] and self.item_beats(side, rival, item)
            for rival in range(len(self.rows[side]))
        )

    def pairs(self):
        return [
            (i, j)
            for i in range(len(self.rows[0]))
            for j in range(len(self.rows[1]))
            if self.keys[0][i] == self.keys[1][j]
        ]

    def values(self, i, j):
        turned = [
            [value if up else -value for up, value in zip(self.ups[side], self.rows[side][item])]
            for side, item in ((0, i), (1, j))
        ]
        summed = [[pair[side] for pair in self.added] for side in (0, 1)]
        alone = [turned[side][m] for side in (0, 1) for m in range(len(turned[side])) if m not in summed[side]]
        return alone + [turned[0][one] + turned[1][two] for one, two in self.added]

    def pair_beats(self, one, another):
        mine, theirs = self.values(*one), self.values(*another)
        return all(a >= b for a, b in zip(mine, theirs)) and any(a > b for a, b in zip(mine, theirs))

    def candidates(self):
        return [
            (i, j)
            for i, j in self.pairs()
            if not self.has_better_namesake(0, i) and not self.has_better_namesake(1, j)
        ]

    def unbeaten(self):
        """The unbeaten among all pairs: candidates are not used here."""
        pairs = self.pairs()
        return [pair for pair in pairs if not any(self.pair_beats(rival, pair) for rival in pairs)]

    def plain_join(self):
        unbeaten = self.unbeaten()
        flat = [number for pair in unbeaten for number in pair]
        return [len(self.pairs()), len(self.candidates()), len(unbeaten)] + flat


class Numbers:
    """A fixed run of numbers that looks mixed, the same each time."""

    def __init__(self, seed):
        self.state = seed

    def below(self, bound):
        self.state = (self.state * 6364136223846793005 + 1442695040888963407) % 2 ** 64
        return (self.state >> 33) % bound


def mixed_rows(numbers, measures, most_items, spread):
    return [
        [numbers.below(2 * spread + 1) - spread for measure in range(measures)]
        for item in range(numbers.below(most_items + 1))
    ]


def mixed_sums(numbers, ups):
    """Measures to be added up, each once, of the same direction."""
    added = []
    for one in range(len(ups[0])):
        two = numbers.below(len(ups[1]))
        if ups[0][one] == ups[1][two] and two not in [pair[1] for pair in added] and numbers.below(2):
            added.insert(numbers.below(len(added) + 1), (one, two))
    return added


def mixed_case(seed, most_items=8):
    numbers = Numbers(seed)
    ups = [[numbers.below(2) == 1 for measure in range(1 + numbers.below(4))] for side in (0, 1)]
    spread = (1, 3, 1000)[numbers.below(3)]
    rows = [mixed_rows(numbers, len(ups[side]), most_items, spread) for side in (0, 1)]
    most_keys = (1, 2, 3, 8)[numbers.below(4)]
    given = [[numbers.below(most_keys) for item in rows[side]] for side in (0, 1)]
    return Case(ups[0], rows[0], given[0], ups[1], rows[1], given[1], mixed_sums(numbers, ups))
