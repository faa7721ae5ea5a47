import unittest

from tests.helper import Case, mixed_case

SEEDS = range(5000, 5300)


def told_pairs(joined):
    return list(zip(joined[3::2], joined[4::2]))


class Promises(unittest.TestCase):
    """The promises as far as join tells of them, over many mixed lists."""

    def test_1_the_unbeaten_are_those_of_all_pairs_and_beat_the_others(self):
        for seed in SEEDS:
            case = mixed_case(seed)
            found = told_pairs(case.joined())
            self.assertEqual(found, case.unbeaten(), seed)
            for pair in case.pairs():
                beaten = any(case.pair_beats(best, pair) for best in found)
                self.assertNotEqual(beaten, pair in found, (seed, pair))

    def test_2_joined_are_those_with_the_same_key_each_once(self):
        for seed in SEEDS:
            case = mixed_case(seed)
            joined = case.joined()
            found = told_pairs(joined)
            same = [(a, b) for a in case.keys[0] for b in case.keys[1] if a == b]
            self.assertEqual(joined[0], len(same), seed)
            self.assertEqual(joined[2], len(found), seed)
            self.assertEqual(found, sorted(set(found)), seed)
            for i, j in found:
                self.assertEqual(case.keys[0][i], case.keys[1][j], (seed, i, j))

    def test_2_with_all_values_the_same_all_pairs_are_told(self):
        for seed in SEEDS:
            mixed = mixed_case(seed)
            rows = [[[0] * len(values) for values in side] for side in mixed.rows]
            case = Case(mixed.ups[0], rows[0], mixed.keys[0], mixed.ups[1], rows[1], mixed.keys[1], mixed.added)
            self.assertEqual(told_pairs(case.joined()), case.pairs(), seed)

    def test_3_a_better_partner_of_the_same_key_makes_a_better_pair(self):
        seen = 0
        for seed in SEEDS:
            case = mixed_case(seed)
            found = told_pairs(case.joined())
            for i, j in case.pairs():
                if case.has_better_namesake(0, i) or case.has_better_namesake(1, j):
                    seen += 1
                    self.assertNotIn((i, j), found, seed)
        self.assertGreater(seen, 100)

    def test_3_with_two_items_that_differ_by_a_partner_only(self):
        for added in ([], [(0, 0)], [(1, 1)], [(0, 0), (1, 1)], [(1, 1), (0, 0)]):
            ups = [True, False]
            worse = Case(ups, [[5, 5]], [3], ups, [[7, 4], [7, 3], [6, 3]], [3, 3, 3], added)
            self.assertEqual(worse.joined(), [3, 1, 1, 0, 1], added)
            apart = Case(ups, [[5, 5]], [3], ups, [[7, 4], [7, 3], [6, 3]], [3, 0, 0], added)
            self.assertEqual(apart.joined(), [1, 1, 1, 0, 0], added)

    def test_5_with_one_key_and_no_sums_the_unbeaten_are_those_of_unbeaten_items(self):
        for seed in SEEDS:
            mixed = mixed_case(seed)
            given = [[seed % 8] * len(rows) for rows in mixed.rows]
            case = Case(mixed.ups[0], mixed.rows[0], given[0], mixed.ups[1], mixed.rows[1], given[1])
            best = [
                [item for item in range(len(case.rows[side])) if not case.has_better_namesake(side, item)]
                for side in (0, 1)
            ]
            joined = case.joined()
            self.assertEqual(told_pairs(joined), [(i, j) for i in best[0] for j in best[1]], seed)
            self.assertEqual(joined[1], joined[2], seed)


if __name__ == "__main__":
    unittest.main()
