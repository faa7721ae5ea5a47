import unittest

from tests.helper import Case, forget, groups, join, liked, mixed_case, pair, prefer, preferring_case, summing_case

SEEDS = range(5000, 5300)
# Seven items in each list: each two of them can be asked for in one line of at most 60 calls.
FEW = 7


def two_by_two(numbers):
    return list(zip(numbers[::2], numbers[1::2]))


def all_twos(case):
    return [(i, j) for i in range(len(case.rows[0])) for j in range(len(case.rows[1]))]


def told_of_all(case):
    """What pair tells of each two items, by the two."""
    asked = all_twos(case)
    return dict(zip(asked, case.answered(*[pair(i, j) for i, j in asked])))


class Promise1(unittest.TestCase):
    """The unbeaten pairs found among candidates are the unbeaten of all; each other pair is beaten by one of them."""

    def test_the_unbeaten_are_those_of_all_pairs(self):
        for seed in SEEDS:
            for case in (mixed_case(seed), summing_case(seed)):
                self.assertEqual(two_by_two(case.joined()[3:]), case.unbeaten(), seed)

    def test_each_other_pair_is_beaten_by_the_one_that_is_told(self):
        seen = 0
        for seed in SEEDS:
            case = mixed_case(seed, FEW)
            best = two_by_two(case.joined()[3:])
            told = told_of_all(case)
            for one in case.pairs():
                self.assertEqual(told[one][0], int(one in best), (seed, one))
                if one not in best:
                    seen += 1
                    rival = tuple(told[one][1:3])
                    self.assertIn(rival, best, (seed, one))
                    self.assertTrue(case.pair_beats(rival, one), (seed, one))
        self.assertGreater(seen, 500)


class Promise2(unittest.TestCase):
    """Joined are just those with the same key, each once."""

    def test_how_many_and_each_once(self):
        for seed in SEEDS:
            case = mixed_case(seed)
            joined = case.joined()
            found = two_by_two(joined[3:])
            same = [(a, b) for a in case.keys[0] for b in case.keys[1] if a == b]
            self.assertEqual(joined[0], len(same), seed)
            self.assertEqual(joined[2], len(found), seed)
            self.assertEqual(found, sorted(set(found)), seed)

    def test_all_others_are_refused(self):
        for seed in SEEDS:
            case = mixed_case(seed, FEW)
            told = told_of_all(case)
            for (i, j), answered in told.items():
                self.assertEqual(answered == [-5], case.keys[0][i] != case.keys[1][j], (seed, i, j))
            self.assertEqual(case.joined()[0], sum(answered != [-5] for answered in told.values()), seed)

    def test_with_all_values_the_same_all_pairs_are_told(self):
        for seed in SEEDS:
            mixed = mixed_case(seed)
            rows = [[[0] * len(values) for values in side] for side in mixed.rows]
            case = Case(mixed.ups[0], rows[0], mixed.keys[0], mixed.ups[1], rows[1], mixed.keys[1], mixed.added)
            joined, found = case.answered(join(), liked())
            self.assertEqual(two_by_two(joined[3:]), case.pairs(), seed)
            self.assertEqual(two_by_two(found[1:]), case.pairs(), seed)


class Promise3(unittest.TestCase):
    """With a better partner of the same key a pair is better."""

    def better_partners(self, case):
        """Each pair, and the one with a better partner of the same key in its place."""
        found = []
        for worse in case.pairs():
            for better in case.pairs():
                if better[0] == worse[0] and case.item_beats(1, better[1], worse[1]):
                    found.append((better, worse))
                if better[1] == worse[1] and case.item_beats(0, better[0], worse[0]):
                    found.append((better, worse))
        return found

    def test_its_values_are_better(self):
        seen = 0
        for seed in SEEDS:
            case = mixed_case(seed, FEW)
            told = told_of_all(case)
            for better, worse in self.better_partners(case):
                seen += 1
                self.assertEqual(told[worse][0], 0, (seed, worse))
                mine, theirs = told[better][1 if told[better][0] else 3:], told[worse][3:]
                self.assertEqual(len(mine), len(theirs))
                self.assertTrue(all(a >= b for a, b in zip(mine, theirs)) and mine != theirs, (seed, better, worse))
        self.assertGreater(seen, 500)

    def test_neither_unbeaten_nor_liked_without_it(self):
        for seed in SEEDS:
            case = preferring_case(seed)
            joined, found = case.answered(join(), liked())
            for better, worse in self.better_partners(case):
                self.assertNotIn(worse, two_by_two(joined[3:]), seed)
                self.assertNotIn(worse, two_by_two(found[1:]), seed)

    def test_with_two_items_that_differ_by_a_partner_only(self):
        for added in ([], [(0, 0)], [(1, 1)], [(0, 0), (1, 1)], [(1, 1), (0, 0)]):
            ups = [True, False]
            worse = Case(ups, [[5, 5]], [3], ups, [[7, 4], [7, 3], [6, 3]], [3, 3, 3], added)
            self.assertEqual(worse.joined(), [3, 1, 1, 0, 1], added)
            apart = Case(ups, [[5, 5]], [3], ups, [[7, 4], [7, 3], [6, 3]], [3, 0, 0], added)
            self.assertEqual(apart.joined(), [1, 1, 1, 0, 0], added)


class Promise4(unittest.TestCase):
    """With preferences, too, candidates are enough; the more are told the fewer pairs are liked."""

    def test_the_liked_are_those_of_all_pairs_and_candidates(self):
        for seed in SEEDS:
            for case in (preferring_case(seed), summing_case(seed)):
                found = two_by_two(case.answered(liked())[0][1:])
                self.assertEqual(found, case.liked(), seed)
                self.assertEqual([one for one in found if one not in case.candidates()], [], seed)

    def test_the_more_are_told_the_fewer_are_liked(self):
        fewer = 0
        for seed in SEEDS:
            case = preferring_case(seed)
            calls = [liked()]
            for one, two in case.told:
                calls += [prefer(one, two), liked()]
            answered = case.with_told([]).answered(*calls, forget(), liked())
            found = [two_by_two(told[1:]) for told in answered[::2]]
            for count, (before, behind) in enumerate(zip(found[:-1], found[1:-1])):
                self.assertEqual([one for one in behind if one not in before], [], seed)
                self.assertEqual(behind, case.with_told(case.told[:count + 1]).liked(), seed)
                fewer += len(behind) < len(before)
            self.assertEqual(found[-1], found[0], seed)
        self.assertGreater(fewer, 30)

    def test_unbeaten_pairs_of_values_of_their_own_stay_liked(self):
        for seed in SEEDS:
            case = preferring_case(seed)
            joined, found = case.answered(join(), liked())
            seen = [case.values(i, j) for i, j in case.pairs()]
            for i, j in two_by_two(joined[3:]):
                if seen.count(case.values(i, j)) == 1:
                    self.assertIn((i, j), two_by_two(found[1:]), seed)


class Promise5(unittest.TestCase):
    """All with one key and nothing added up, the unbeaten pairs are those of unbeaten items."""

    def test_with_one_key_and_no_sums(self):
        for seed in SEEDS:
            mixed = mixed_case(seed)
            given = [[seed % 8] * len(rows) for rows in mixed.rows]
            case = Case(mixed.ups[0], mixed.rows[0], given[0], mixed.ups[1], mixed.rows[1], given[1])
            best = [
                [item for item in range(len(case.rows[side])) if not case.has_better_namesake(side, item)]
                for side in (0, 1)
            ]
            both = [(i, j) for i in best[0] for j in best[1]]
            joined, grouped, found = case.answered(join(), groups(), liked())
            self.assertEqual(two_by_two(joined[3:]), both, seed)
            self.assertEqual(joined[1], joined[2], seed)
            self.assertEqual(two_by_two(found[1:]), both, seed)
            if both:
                self.assertEqual(grouped, [1, seed % 8, len(best[0]), *best[0], len(best[1]), *best[1]], seed)
            else:
                self.assertEqual(grouped, [0], seed)


if __name__ == "__main__":
    unittest.main()
