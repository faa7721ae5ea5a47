"""Calls written and answers read for the tests, and plain counts over all pairs to hold the program's against."""

from bestpairs.joins import answers


def as_bytes(text):
    return list(text.encode("utf-8")) if isinstance(text, str) else list(text)


def row(numbers):
    return [len(numbers)] + list(numbers)


def load(text):
    return [0] + row(as_bytes(text))


def other(text):
    return [1] + row(as_bytes(text))


def keys(which, given):
    return [2, which] + row(given)


def sums(first, second):
    return [3] + row(first) + row(second)


def join():
    return [4]


def pair(i, j):
    return [5, i, j]


def prefer(one, another):
    return [6, one, another]


def liked():
    return [7]


def groups():
    return [8]


def forget():
    return [9]


def parted(told):
    """What `answers` gives back, as one list for each call."""
    found = []
    place = 0
    while place < len(told):
        end = place + 1 + told[place]
        if end > len(told):
            raise AssertionError("an answer ends too early")
        found.append(told[place + 1:end])
        place = end
    return found


def ask(*calls):
    """The answers to these calls, one list for each."""
    found = parted(answers(flat(calls)))
    if len(found) != len(calls):
        raise AssertionError(f"{len(calls)} calls, {len(found)} answers")
    return found


def last(*calls):
    return ask(*calls)[-1]


def flat(parts):
    return [number for part in parts for number in part]


def list_text(ups, rows):
    """A list in its one form, with names made up."""
    measures = ", ".join(f"m{k} {'up' if up else 'down'}" for k, up in enumerate(ups))
    lines = [f"measures {measures} ;\n"]
    for k, values in enumerate(rows):
        lines.append(f"item i{k} : {', '.join(str(value) for value in values)} ;\n")
    return "".join(lines)


def reached_from(key, told):
    """The keys that this one is preferred to, by what was told and what follows, walked step by step."""
    found = []
    ahead = [key]
    while ahead:
        upper = ahead.pop()
        for one, two in told:
            if one == upper and two not in found:
                found.append(two)
                ahead.append(two)
    return found


class Case:
    """Two lists with keys, sums and preferences, as numbers."""

    def __init__(self, first_ups, first, first_keys, second_ups, second, second_keys, added=(), told=()):
        self.ups = (first_ups, second_ups)
        self.rows = (first, second)
        self.keys = (first_keys, second_keys)
        self.added = list(added)
        self.told = list(told)

    def with_told(self, told):
        return Case(
            self.ups[0], self.rows[0], self.keys[0], self.ups[1], self.rows[1], self.keys[1], self.added, told
        )

    def calls(self):
        return [
            load(list_text(self.ups[0], self.rows[0])),
            other(list_text(self.ups[1], self.rows[1])),
            keys(0, self.keys[0]),
            keys(1, self.keys[1]),
            sums([one for one, two in self.added], [two for one, two in self.added]),
        ] + [prefer(one, two) for one, two in self.told]

    def answered(self, *calls):
        """The program's answers to these calls, behind those that make the case."""
        ready = self.calls()
        found = ask(*ready, *calls)
        taken = found[:len(ready)]
        if any(answered[0] < 0 for answered in taken) or taken[0][0] != 1 or taken[1][0] != 1:
            raise AssertionError(f"not taken: {taken}")
        return found[len(ready):]

    def joined(self):
        return self.answered(join())[0]

    def item_beats(self, side, one, another):
        """Whether an item beats another one, straight from the words."""
        better = False
        for up, mine, theirs in zip(self.ups[side], self.rows[side][one], self.rows[side][another]):
            if (mine < theirs) if up else (mine > theirs):
                return False
            better = better or mine != theirs
        return better

    def has_better_namesake(self, side, item):
        """Whether another item with the same key in the same list beats this one."""
        return any(
            self.keys[side][rival] == self.keys[side][item] and self.item_beats(side, rival, item)
            for rival in range(len(self.rows[side]))
        )

    def pairs(self):
        return [
            (i, j)
            for i in range(len(self.rows[0]))
            for j in range(len(self.rows[1]))
            if self.keys[0][i] == self.keys[1][j]
        ]

    def values(self, i, j):
        turned = [
            [value if up else -value for up, value in zip(self.ups[side], self.rows[side][item])]
            for side, item in ((0, i), (1, j))
        ]
        summed = [[pair[side] for pair in self.added] for side in (0, 1)]
        alone = [turned[side][m] for side in (0, 1) for m in range(len(turned[side])) if m not in summed[side]]
        return alone + [turned[0][one] + turned[1][two] for one, two in self.added]

    def pair_beats(self, one, another):
        mine, theirs = self.values(*one), self.values(*another)
        return all(a >= b for a, b in zip(mine, theirs)) and any(a > b for a, b in zip(mine, theirs))

    def candidates(self):
        return [
            (i, j)
            for i, j in self.pairs()
            if not self.has_better_namesake(0, i) and not self.has_better_namesake(1, j)
        ]

    def unbeaten(self):
        """The unbeaten among all pairs: candidates are not used here."""
        pairs = self.pairs()
        return [pair for pair in pairs if not any(self.pair_beats(rival, pair) for rival in pairs)]

    def plain_join(self):
        unbeaten = self.unbeaten()
        return [len(self.pairs()), len(self.candidates()), len(unbeaten)] + flat(unbeaten)


    def plain_pair(self, i, j):
        if i not in range(len(self.rows[0])) or j not in range(len(self.rows[1])):
            return [-2]
        if self.keys[0][i] != self.keys[1][j]:
            return [-5]
        rivals = [rival for rival in self.unbeaten() if self.pair_beats(rival, (i, j))]
        return ([0, *rivals[0]] if rivals else [1]) + self.values(i, j)

    def is_liked_better(self, one, another):
        mine, theirs = self.values(*one), self.values(*another)
        upper, lower = self.keys[0][one[0]], self.keys[0][another[0]]
        if not all(a >= b for a, b in zip(mine, theirs)):
            return False
        if upper != lower and lower not in reached_from(upper, self.told):
            return False
        return mine != theirs or upper != lower

    def liked(self):
        """The liked among all pairs: candidates are not used here."""
        pairs = self.pairs()
        return [pair for pair in pairs if not any(self.is_liked_better(rival, pair) for rival in pairs)]

    def plain_liked(self):
        found = self.liked()
        return [len(found)] + flat(found)

    def plain_groups(self):
        found = sorted({self.keys[0][i] for i, j in self.pairs()})
        told = [len(found)]
        for key in found:
            told.append(key)
            for side in (0, 1):
                same = [item for item, own in enumerate(self.keys[side]) if own == key]
                told += row([item for item in same if not self.has_better_namesake(side, item)])
        return told


class Numbers:
    """A fixed run of numbers that looks mixed, the same each time."""

    def __init__(self, seed):
        self.state = seed

    def below(self, bound):
        self.state = (self.state * 6364136223846793005 + 1442695040888963407) % 2 ** 64
        return (self.state >> 33) % bound


def mixed_rows(numbers, measures, most_items, spread):
    return [
        [numbers.below(2 * spread + 1) - spread for measure in range(measures)]
        for item in range(numbers.below(most_items + 1))
    ]


def mixed_sums(numbers, ups):
    """Measures to be added up, each once, of the same direction."""
    added = []
    for one in range(len(ups[0])):
        taken = [pair[1] for pair in added]
        free = [two for two in range(len(ups[1])) if ups[1][two] == ups[0][one] and two not in taken]
        if free and numbers.below(3):
            added.insert(numbers.below(len(added) + 1), (one, free[numbers.below(len(free))]))
    return added


def mixed_told(numbers, bound):
    """Preferences to be told one behind another, none of which makes a key preferred to itself."""
    told = []
    for draw in range(numbers.below(8)):
        one, two = numbers.below(bound), numbers.below(bound)
        if one != two and one not in reached_from(two, told):
            told.append((one, two))
    return told


def drawn_case(numbers, most_measures, most_items, spread, most_keys):
    ups = [[numbers.below(2) == 1 for measure in range(1 + numbers.below(most_measures))] for side in (0, 1)]
    if numbers.below(2):
        # Like directions, so that many can be added up.
        ups[1] = ups[0][::-1]
    rows = [mixed_rows(numbers, len(ups[side]), most_items, spread) for side in (0, 1)]
    given = [[numbers.below(most_keys) for item in rows[side]] for side in (0, 1)]
    return Case(ups[0], rows[0], given[0], ups[1], rows[1], given[1], mixed_sums(numbers, ups))


def mixed_case(seed, most_items=8):
    numbers = Numbers(seed)
    return drawn_case(numbers, 4, most_items, (1, 3, 1000)[numbers.below(3)], (1, 2, 3, 8)[numbers.below(4)])


def preferring_case(seed, most_items=10):
    """Preferences too, and few values, so that the keys often count."""
    numbers = Numbers(seed)
    most_keys = (2, 3, 4, 8)[numbers.below(4)]
    case = drawn_case(numbers, 2, most_items, 1 + numbers.below(3), most_keys)
    return case.with_told(mixed_told(numbers, most_keys))


def summing_case(seed, most_items=8):
    """All measures added up, so that candidates of one key often beat one another; and preferences."""
    numbers = Numbers(seed)
    ups = [True, False]
    rows = [mixed_rows(numbers, 2, most_items, 4) for side in (0, 1)]
    most_keys = 1 + numbers.below(3)
    given = [[numbers.below(most_keys) for item in rows[side]] for side in (0, 1)]
    added = ([(0, 0), (1, 1)], [(1, 1), (0, 0)])[numbers.below(2)]
    return Case(ups, rows[0], given[0], ups, rows[1], given[1], added, mixed_told(numbers, most_keys))
