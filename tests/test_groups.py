import unittest

from tests.helper import Case, groups, join, last, load, mixed_case, prefer, sums

UP = [True]
DOWN = [False]


class Groups(unittest.TestCase):
    def grouped(self, *case):
        return Case(*case).answered(groups())[0]

    def test_without_another_list(self):
        self.assertEqual(last(load("measures m up ; item a : 1 ;"), groups()), [-6])

    def test_no_pair_at_all(self):
        self.assertEqual(self.grouped(UP, [[1], [2]], [0, 1], UP, [[1], [2]], [2, 3]), [0])
        self.assertEqual(self.grouped(UP, [], [], UP, [[1]], [0]), [0])
        self.assertEqual(self.grouped(UP, [[1]], [0], UP, [], []), [0])
        self.assertEqual(self.grouped(UP, [], [], UP, [], []), [0])

    def test_one_pair(self):
        self.assertEqual(self.grouped(UP, [[1]], [7], UP, [[1]], [7]), [1, 7, 1, 0, 1, 0])

    def test_a_key_that_only_one_list_has(self):
        found = self.grouped(UP, [[1], [2], [3]], [4, 5, 2], UP, [[1], [2]], [5, 6])
        self.assertEqual(found, [1, 5, 1, 1, 1, 0])

    def test_keys_in_order_and_not_as_they_come(self):
        found = self.grouped(UP, [[1], [2], [3], [4]], [7, 3, 0, 5], UP, [[1], [2], [3], [4]], [5, 7, 0, 3])
        self.assertEqual(found, [4, 0, 1, 2, 1, 2, 3, 1, 1, 1, 3, 5, 1, 3, 1, 0, 7, 1, 0, 1, 1])

    def test_all_eight_keys(self):
        given = list(range(8))
        found = self.grouped(UP, [[1]] * 8, given, UP, [[1]] * 8, given[::-1])
        self.assertEqual(found, [8] + [number for key in given for number in (key, 1, key, 1, 7 - key)])

    def test_beaten_ones_are_left_out(self):
        found = self.grouped(UP, [[1], [3], [2]], [0, 0, 0], DOWN, [[1], [3], [2]], [0, 0, 0])
        self.assertEqual(found, [1, 0, 1, 1, 1, 0])

    def test_only_the_same_key_beats(self):
        found = self.grouped(UP, [[1], [3], [2]], [0, 1, 0], DOWN, [[1], [3], [2]], [0, 1, 1])
        self.assertEqual(found, [2, 0, 1, 2, 1, 0, 1, 1, 1, 1, 2])

    def test_items_with_the_same_values(self):
        found = self.grouped(UP, [[3], [3], [2], [3]], [0, 0, 0, 1], DOWN, [[3], [3], [9], [3]], [0, 0, 0, 0])
        self.assertEqual(found, [1, 0, 2, 0, 1, 3, 0, 1, 3])

    def test_several_unbeaten(self):
        both = [True, False]
        found = self.grouped(both, [[1, 1], [2, 2], [2, 3], [3, 3]], [2] * 4, both, [[5, 5], [5, 5], [4, 5]], [2] * 3)
        self.assertEqual(found, [1, 2, 3, 0, 1, 3, 2, 0, 1])

    def test_sixteen_items_in_both(self):
        every = [16] + list(range(16))
        self.assertEqual(self.grouped(UP, [[5]] * 16, [1] * 16, UP, [[5]] * 16, [1] * 16), [1, 1] + every + every)

    def test_sums_and_preferences_do_not_count(self):
        case = Case(UP, [[1], [3], [2]], [0, 1, 0], UP, [[1], [3], [2]], [0, 1, 1])
        found = case.answered(groups(), sums([0], [0]), prefer(1, 0), groups(), join(), groups())
        self.assertEqual(found[0], [2, 0, 1, 2, 1, 0, 1, 1, 1, 1, 1])
        self.assertEqual([found[3], found[5]], [found[0]] * 2)

    def test_against_a_plain_count(self):
        for seed in range(4000, 4200):
            case = mixed_case(seed)
            self.assertEqual(case.answered(groups())[0], case.plain_groups(), seed)

    def test_long_lists_against_a_plain_count(self):
        for seed in range(4200, 4230):
            case = mixed_case(seed, 16)
            self.assertEqual(case.answered(groups())[0], case.plain_groups(), seed)


if __name__ == "__main__":
    unittest.main()
