import unittest

from tests.helper import Case, forget, join, keys, last, liked, list_text, load, mixed_case, other, prefer
from tests.helper import preferring_case, summing_case, sums

UP = [True]
DOWN = [False]
SAME = Case(UP, [[3], [3]], [1, 2], DOWN, [[4], [4]], [2, 1])


def case_of_values(values, given, told=()):
    """One pair for each of these values, with these keys, one each."""
    return Case([True] * len(values[0]), values, given, UP, [[0]] * len(values), given, (), told)


class Liked(unittest.TestCase):
    def test_without_another_list(self):
        text = "measures m up ; item a : 1 ;"
        self.assertEqual(last(load(text), liked()), [-6])
        self.assertEqual(last(load(text), prefer(1, 0), liked()), [-6])
        self.assertEqual(last(load(text), other(text), load(text), liked()), [-6])

    def test_with_no_pair_at_all(self):
        self.assertEqual(Case(UP, [[1]], [0], UP, [[1]], [1], (), [(0, 1)]).answered(liked()), [[0]])
        self.assertEqual(Case(UP, [], [], UP, [], []).answered(liked()), [[0]])

    def test_without_preferences_only_the_same_key_counts(self):
        case = case_of_values([[1], [5]], [0, 1])
        self.assertEqual(case.answered(join(), liked()), [[2, 2, 1, 1, 1], [2, 0, 0, 1, 1]])
        one_key = Case(UP, [[1], [5]], [3, 3], UP, [[1], [5]], [3, 3])
        self.assertEqual(one_key.answered(liked()), [[1, 1, 1]])

    def test_a_preferred_key_and_no_value_less(self):
        for values, found in (
            ([[5, 5], [5, 5]], [1, 1, 1]),
            ([[5, 5], [5, 6]], [1, 1, 1]),
            ([[5, 5], [6, 6]], [1, 1, 1]),
            ([[5, 5], [4, 9]], [2, 0, 0, 1, 1]),
            ([[5, 5], [5, 4]], [2, 0, 0, 1, 1]),
            ([[5, 5], [4, 4]], [2, 0, 0, 1, 1]),
        ):
            self.assertEqual(case_of_values(values, [0, 1], [(1, 0)]).answered(liked()), [found], values)

    def test_a_key_that_others_are_preferred_to_is_not_liked_better_by_its_values(self):
        self.assertEqual(case_of_values([[9], [5]], [0, 1], [(1, 0)]).answered(liked()), [[2, 0, 0, 1, 1]])

    def test_the_same_values_with_unlike_keys(self):
        self.assertEqual(SAME.answered(liked()), [[2, 0, 1, 1, 0]])
        self.assertEqual(SAME.answered(prefer(1, 2), liked()), [[1], [1, 0, 1]])
        self.assertEqual(SAME.answered(prefer(2, 1), liked()), [[1], [1, 1, 0]])
        self.assertEqual(SAME.answered(prefer(2, 3), liked()), [[1], [2, 0, 1, 1, 0]])
        self.assertEqual(SAME.answered(prefer(0, 1), prefer(0, 2), liked())[-1], [2, 0, 1, 1, 0])

    def test_the_same_values_with_the_same_key(self):
        case = Case(UP, [[3], [3]], [1, 1], DOWN, [[4], [4]], [1, 1], (), [(1, 2), (0, 1)])
        self.assertEqual(case.answered(liked()), [[4, 0, 0, 0, 1, 1, 0, 1, 1]])

    def test_what_follows_from_several_told_counts(self):
        case = case_of_values([[5], [5], [4]], [0, 2, 1])
        self.assertEqual(case.answered(prefer(2, 1), prefer(1, 0), liked())[-1], [1, 1, 1])
        self.assertEqual(case.answered(prefer(2, 1), liked())[-1], [2, 0, 0, 1, 1])
        apart = case_of_values([[5], [5]], [0, 7])
        row = [prefer(key + 1, key) for key in range(7)]
        self.assertEqual(apart.answered(*row, liked())[-1], [1, 1, 1])
        self.assertEqual(apart.answered(*row[:3], *row[4:], liked())[-1], [2, 0, 0, 1, 1])

    def test_pairs_stand_in_their_order(self):
        case = Case(UP, [[3]] * 4, [1, 0, 1, 0], UP, [[4]] * 4, [0, 1, 0, 1], (), [(5, 6)])
        self.assertEqual(case.answered(liked()), [[8, 0, 1, 0, 3, 1, 0, 1, 2, 2, 1, 2, 3, 3, 0, 3, 2]])

    def test_sums_count(self):
        case = Case(UP, [[5], [1]], [0, 1], UP, [[1], [6]], [0, 1], (), [(1, 0)])
        self.assertEqual(
            case.answered(liked(), sums([0], [0]), liked(), sums([], []), liked()),
            [[2, 0, 0, 1, 1], [1], [1, 1, 1], [2], [2, 0, 0, 1, 1]],
        )

    def test_a_candidate_beaten_by_another_one_of_its_key_is_not_liked(self):
        ups = [True, False]
        # Added up: 25 -2, 12 -1, 35 -3, 22 -2, so the last is beaten by the first.
        case = Case(ups, [[10, 1], [20, 2]], [6, 6], ups, [[15, 1], [2, 0]], [6, 6], [(0, 0), (1, 1)])
        self.assertEqual(case.answered(join(), liked()), [[4, 4, 3, 0, 0, 0, 1, 1, 0], [3, 0, 0, 0, 1, 1, 0]])
        self.assertEqual(case.with_told([(5, 6), (6, 7)]).answered(liked()), [[3, 0, 0, 0, 1, 1, 0]])

    def test_join_does_not_look_at_preferences(self):
        self.assertEqual(SAME.answered(join(), prefer(1, 2), join())[::2], [[2, 2, 2, 0, 1, 1, 0]] * 2)


class KeptAndForgotten(unittest.TestCase):
    def test_after_forget(self):
        found = SAME.answered(prefer(1, 2), liked(), forget(), liked(), prefer(2, 1), liked())
        self.assertEqual(found, [[1], [1, 0, 1], [1], [2, 0, 1, 1, 0], [1], [1, 1, 0]])

    def test_after_load_no_preferences_are_there(self):
        found = SAME.answered(prefer(1, 2), *SAME.calls(), liked())
        self.assertEqual(found[-1], [2, 0, 1, 1, 0])

    def test_after_other_they_are_there(self):
        again = (other(list_text(DOWN, SAME.rows[1])), keys(1, SAME.keys[1]))
        self.assertEqual(SAME.answered(prefer(1, 2), *again, liked())[-1], [1, 0, 1])

    def test_told_ahead_of_the_other_list(self):
        found = last(
            load(list_text(UP, SAME.rows[0])), prefer(1, 2), keys(0, SAME.keys[0]),
            other(list_text(DOWN, SAME.rows[1])), keys(1, SAME.keys[1]), liked(),
        )
        self.assertEqual(found, [1, 0, 1])

    def test_asking_changes_nothing(self):
        found = SAME.answered(prefer(1, 2), liked(), join(), liked(), forget())
        self.assertEqual(found[1], found[3])
        self.assertEqual(found[4], [1])


class AgainstAPlainCount(unittest.TestCase):
    def test_without_preferences(self):
        for seed in range(3000, 3200):
            case = mixed_case(seed)
            self.assertEqual(case.answered(liked())[0], case.plain_liked(), seed)

    def compared(self, cases):
        """How many of these cases have fewer pairs that are liked than they would have without preferences."""
        fewer = 0
        for case in cases:
            found = case.answered(liked())[0]
            self.assertEqual(found, case.plain_liked(), case.calls())
            fewer += found[0] < case.with_told([]).answered(liked())[0][0]
        return fewer

    def test_with_preferences(self):
        self.assertGreater(self.compared(preferring_case(seed) for seed in range(3200, 3500)), 20)

    def test_with_preferences_and_all_measures_added_up(self):
        self.assertGreater(self.compared(summing_case(seed) for seed in range(3500, 3700)), 10)

    def test_256_pairs_with_one_key(self):
        every = [number for i in range(16) for j in range(16) for number in (i, j)]
        rows = [[k, k] for k in range(16)]
        case = Case([True, False], rows, [7] * 16, [False, True], rows, [7] * 16, (), [(7, 0), (1, 7)])
        self.assertEqual(case.answered(liked()), [[256] + every])


if __name__ == "__main__":
    unittest.main()
