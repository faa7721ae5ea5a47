import unittest

from tests.helper import Case, flat, join, last, list_text, load, mixed_case, other, summing_case

UP = [True]
DOWN = [False]


class Join(unittest.TestCase):
    def test_without_another_list(self):
        self.assertEqual(last(load("measures m up ; item a : 1 ;"), join()), [-6])

    def test_with_no_pair_at_all(self):
        self.assertEqual(Case(UP, [[1], [2]], [0, 1], UP, [[1], [2]], [2, 3]).joined(), [0, 0, 0])
        self.assertEqual(Case(UP, [], [], UP, [[1]], [0]).joined(), [0, 0, 0])
        self.assertEqual(Case(UP, [[1]], [0], UP, [], []).joined(), [0, 0, 0])
        self.assertEqual(Case(UP, [], [], UP, [], []).joined(), [0, 0, 0])

    def test_256_pairs_with_the_same_values(self):
        every = [(i, j) for i in range(16) for j in range(16)]
        case = Case(UP, [[5]] * 16, [0] * 16, DOWN, [[-5]] * 16, [0] * 16)
        self.assertEqual(case.joined(), [256, 256, 256] + flat(every))

    def test_256_pairs_of_unlike_values_none_beaten(self):
        every = [(i, j) for i in range(16) for j in range(16)]
        rows = [[k, k] for k in range(16)]
        case = Case([True, False], rows, [7] * 16, [False, True], rows, [7] * 16)
        self.assertEqual(case.joined(), [256, 256, 256] + flat(every))

    def test_256_pairs_with_one_unbeaten(self):
        case = Case(UP, [[k] for k in range(16)], [0] * 16, DOWN, [[k] for k in range(16)], [0] * 16)
        self.assertEqual(case.joined(), [256, 1, 1, 15, 0])

    def test_the_same_values_do_not_beat_one_another(self):
        case = Case(UP, [[3], [3], [2]], [0, 0, 0], DOWN, [[4], [4], [9]], [0, 0, 0])
        self.assertEqual(case.joined(), [9, 4, 4, 0, 0, 0, 1, 1, 0, 1, 1])

    def test_the_same_values_under_unlike_keys(self):
        case = Case(UP, [[3], [3]], [1, 2], UP, [[4], [4]], [2, 1])
        self.assertEqual(case.joined(), [2, 2, 2, 0, 1, 1, 0])

    def test_up_and_down(self):
        self.assertEqual(Case(UP, [[1], [2]], [0, 0], DOWN, [[1], [2]], [0, 0]).joined(), [4, 1, 1, 1, 0])
        self.assertEqual(Case(DOWN, [[1], [2]], [0, 0], UP, [[1], [2]], [0, 0]).joined(), [4, 1, 1, 0, 1])
        self.assertEqual(Case(DOWN, [[-1], [-2]], [0, 0], UP, [[-1], [-2]], [0, 0]).joined(), [4, 1, 1, 1, 0])

    def test_as_good_by_all_and_better_by_one(self):
        both = [True, True]
        self.assertEqual(Case(both, [[1, 2], [1, 3]], [0, 0], UP, [[0]], [0]).joined(), [2, 1, 1, 1, 0])
        self.assertEqual(Case(both, [[1, 3], [1, 2]], [0, 0], UP, [[0]], [0]).joined(), [2, 1, 1, 0, 0])
        self.assertEqual(Case(both, [[1, 3], [2, 2]], [0, 0], UP, [[0]], [0]).joined(), [2, 2, 2, 0, 0, 1, 0])

    def test_pairs_of_unlike_keys_may_beat_one_another(self):
        case = Case(UP, [[1], [5]], [0, 1], UP, [[1], [5]], [0, 1])
        self.assertEqual(case.joined(), [2, 2, 1, 1, 1])

    def test_candidates_are_beaten_by_nobody_with_the_same_key_only(self):
        case = Case(UP, [[1], [5], [9]], [0, 1, 2], UP, [[7], [1]], [0, 1])
        self.assertEqual(case.joined(), [2, 2, 2, 0, 0, 1, 1])

    def test_what_has_no_partner_beats_within_its_list_alone(self):
        case = Case(UP, [[1], [5]], [0, 3], UP, [[7], [9]], [0, 4])
        self.assertEqual(case.joined(), [1, 1, 1, 0, 0])

    def test_pairs_stand_by_the_first_then_by_the_second(self):
        case = Case(UP, [[3]] * 4, [1, 0, 1, 0], UP, [[4]] * 4, [0, 1, 0, 1])
        self.assertEqual(case.joined()[3:], [0, 1, 0, 3, 1, 0, 1, 2, 2, 1, 2, 3, 3, 0, 3, 2])

    def test_joining_changes_nothing(self):
        lists = (load(list_text(UP, [[1], [2]])), other(list_text(DOWN, [[1], [2]])))
        self.assertEqual(last(*lists, join(), join(), join()), last(*lists, join()))


class AgainstAPlainCount(unittest.TestCase):
    def test_mixed_lists(self):
        for seed in range(600):
            case = mixed_case(seed)
            self.assertEqual(case.joined(), case.plain_join(), seed)

    def test_all_measures_added_up(self):
        fewer = 0
        for seed in range(600, 800):
            case = summing_case(seed)
            found = case.joined()
            self.assertEqual(found, case.plain_join(), seed)
            fewer += found[2] < found[1]
        self.assertGreater(fewer, 20)

    def test_long_mixed_lists(self):
        for seed in range(1000, 1012):
            case = mixed_case(seed, 16)
            self.assertEqual(case.joined(), case.plain_join(), seed)


if __name__ == "__main__":
    unittest.main()
