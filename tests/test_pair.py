import unittest

from tests.helper import Case, ask, join, keys, last, load, mixed_case, other, pair, summing_case, sums

FIRST = "measures a up, b down ; item p : 1, 2 ; item q : 3, 4 ;"
SECOND = "measures c down, d up, e up ; item u : 5, 6, 7 ; item v : 8, 9, 10 ; item w : 1, 1, 1 ;"
BOTH = (load(FIRST), other(SECOND))
UP = [True]
DOWN = [False]
GREAT = 10 ** 18


class Refusals(unittest.TestCase):
    def test_no_other_list_ahead_of_all_else(self):
        for i, j in ((0, 0), (1, 0), (5, 0), (0, -1), (GREAT, -GREAT)):
            self.assertEqual(last(load(FIRST), pair(i, j)), [-6])
            self.assertEqual(last(load(FIRST), other("!"), pair(i, j)), [-6])
            self.assertEqual(last(*BOTH, load(FIRST), pair(i, j)), [-6])

    def test_no_such_item(self):
        for i in (-1, -2, 2, 3, GREAT, -GREAT):
            self.assertEqual(last(*BOTH, pair(i, 0)), [-2])
        for j in (-1, -3, 3, 4, GREAT, -GREAT):
            self.assertEqual(last(*BOTH, pair(0, j)), [-2])
        self.assertEqual(last(*BOTH, pair(-GREAT, GREAT)), [-2])

    def test_the_last_items_are_there(self):
        self.assertEqual(last(*BOTH, pair(1, 2)), [1, 3, -4, -1, 1, 1])

    def test_lists_without_items(self):
        empty = "measures m up ;"
        for first, second in ((empty, SECOND), (FIRST, empty), (empty, empty)):
            self.assertEqual(last(load(first), other(second), pair(0, 0)), [-2])

    def test_unlike_keys(self):
        ready = BOTH + (keys(0, [0, 7]), keys(1, [7, 0, 3]))
        for i, j in ((0, 0), (0, 2), (1, 1), (1, 2)):
            self.assertEqual(last(*ready, pair(i, j)), [-5])
        self.assertEqual(last(*ready, pair(0, 1)), [1, 1, -2, -8, 9, 10])
        self.assertEqual(last(*ready, pair(1, 0)), [1, 3, -4, -5, 6, 7])

    def test_no_such_item_ahead_of_unlike_keys(self):
        ready = BOTH + (keys(0, [1, 2]), keys(1, [3, 3, 3]))
        for i, j in ((2, 0), (0, 3), (-1, 0), (1, -1)):
            self.assertEqual(last(*ready, pair(i, j)), [-2])


class Told(unittest.TestCase):
    def test_an_unbeaten_pair(self):
        case = Case(UP, [[1], [2]], [0, 0], DOWN, [[1], [2]], [0, 0])
        self.assertEqual(case.answered(pair(1, 0)), [[1, 2, -1]])

    def test_a_beaten_pair(self):
        case = Case(UP, [[1], [2]], [0, 0], DOWN, [[1], [2]], [0, 0])
        self.assertEqual(
            case.answered(pair(0, 0), pair(0, 1), pair(1, 1)), [[0, 1, 0, 1, -1], [0, 1, 0, 1, -2], [0, 1, 0, 2, -2]]
        )

    def test_the_first_unbeaten_pair_that_beats_it(self):
        both = [True, True]
        # Unbeaten are 1, 2 and 4; 1 does not beat 0, and 3 beats it but is beaten by 4.
        rows = [[2, 2], [1, 9], [4, 4], [3, 3], [5, 3]]
        case = Case(both, rows, [0] * 5, UP, [[0]], [0])
        self.assertEqual(case.joined(), [5, 3, 3, 1, 0, 2, 0, 4, 0])
        self.assertEqual(
            case.answered(pair(0, 0), pair(3, 0), pair(1, 0)), [[0, 2, 0, 2, 2, 0], [0, 2, 0, 3, 3, 0], [1, 1, 9, 0]]
        )

    def test_a_beaten_pair_is_passed_over_though_it_comes_first(self):
        case = Case(UP, [[2], [1], [3]], [0, 0, 0], UP, [[0]], [0])
        self.assertEqual(case.answered(pair(1, 0)), [[0, 2, 0, 1, 0]])

    def test_first_by_the_first_item_then_by_the_second(self):
        case = Case(UP, [[5], [9], [9]], [0, 1, 1], UP, [[5], [9], [9]], [0, 1, 1])
        self.assertEqual(case.answered(pair(0, 0)), [[0, 1, 1, 5, 5]])
        case = Case(UP, [[9], [5], [9]], [1, 0, 1], UP, [[9], [5], [9]], [2, 0, 1])
        self.assertEqual(case.answered(pair(1, 1)), [[0, 0, 2, 5, 5]])

    def test_a_pair_of_another_key_may_beat_it(self):
        case = Case(UP, [[1], [5]], [0, 1], UP, [[1], [5]], [0, 1])
        self.assertEqual(case.answered(pair(0, 0), pair(1, 1)), [[0, 1, 1, 1, 1], [1, 5, 5]])

    def test_the_same_values_as_an_unbeaten_pair(self):
        case = Case(UP, [[3], [3], [2]], [0, 1, 1], DOWN, [[4], [4]], [1, 0])
        self.assertEqual(
            case.answered(pair(0, 1), pair(1, 0), pair(2, 0)), [[1, 3, -4], [1, 3, -4], [0, 0, 1, 2, -4]]
        )

    def test_an_item_without_a_partner_beats_no_pair(self):
        case = Case(UP, [[1], [5]], [0, 3], UP, [[1], [5]], [0, 4])
        self.assertEqual(case.answered(pair(0, 0)), [[1, 1, 1]])

    def test_asking_changes_nothing(self):
        found = ask(*BOTH, join(), pair(0, 0), pair(9, 9), join(), pair(0, 0))
        self.assertEqual(found[2:4], found[5:])


class Values(unittest.TestCase):
    def test_without_sums_all_of_the_first_then_all_of_the_second_turned(self):
        self.assertEqual(last(*BOTH, keys(0, [1, 0]), keys(1, [2, 0, 1]), pair(1, 1)), [1, 3, -4, -8, 9, 10])
        self.assertEqual(last(load("measures m down ; item a : 0 ;"), other("measures n down ; item b : -3 ;"),
                              pair(0, 0)), [1, 0, 3])

    def test_eight_values(self):
        many = "measures a up, b down, c up, d down ; item p : 1, 2, -3, -1000 ;"
        self.assertEqual(last(load(many), other(many), pair(0, 0)), [1, 1, -2, -3, 1000, 1, -2, -3, 1000])

    def test_sums_stand_behind_in_the_order_in_which_they_are_told(self):
        for first, second, told in (
            ([0], [1], [-4, -8, 10, 12]),
            ([0], [2], [-4, -8, 9, 13]),
            ([1], [0], [3, 9, 10, -12]),
            ([0, 1], [2, 0], [9, 13, -12]),
            ([1, 0], [0, 2], [9, -12, 13]),
            ([], [], [3, -4, -8, 9, 10]),
        ):
            ready = BOTH + (keys(0, [1, 0]), keys(1, [2, 0, 1]), sums(first, second))
            found = ask(*ready, pair(1, 1))
            self.assertEqual(found[-1], [1] + told, (first, second))
            self.assertEqual(found[-2], [len(told)])

    def test_all_added_up(self):
        case = Case([False, True], [[1000, -1000]], [4], [True, False], [[-1000, 1000]], [4], [(1, 0), (0, 1)])
        self.assertEqual(case.answered(pair(0, 0)), [[1, -2000, -2000]])

    def test_a_sum_may_make_a_pair_beaten(self):
        ups = [True, False]
        rows = [[10, 1], [20, 2]], [[15, 1], [2, 0]]
        case = Case(ups, rows[0], [0, 0], ups, rows[1], [0, 0], [(0, 0), (1, 1)])
        self.assertEqual(case.answered(pair(1, 1), sums([], []), pair(1, 1)), [[0, 0, 0, 22, -2], [4], [1, 20, -2, 2, 0]])

    def test_another_list_leaves_no_sums(self):
        found = last(*BOTH, sums([0], [1]), other("measures x up ; item y : 2 ;"), pair(0, 0))
        self.assertEqual(found, [1, 1, -2, 2])


class AgainstAPlainCount(unittest.TestCase):
    def compared(self, cases):
        """Each two items are asked for, and those just outside; gives back how many pairs were beaten."""
        beaten = 0
        for case in cases:
            asked = [(i, j) for i in range(-1, len(case.rows[0]) + 1) for j in range(-1, len(case.rows[1]) + 1)]
            found = case.answered(*[pair(i, j) for i, j in asked])
            self.assertEqual(found, [case.plain_pair(i, j) for i, j in asked], case.calls())
            beaten += sum(told[0] == 0 for told in found)
        return beaten

    def test_mixed_lists(self):
        self.assertGreater(self.compared(mixed_case(seed, 5) for seed in range(2000, 2200)), 200)

    def test_all_measures_added_up(self):
        self.assertGreater(self.compared(summing_case(seed, 4) for seed in range(2200, 2400)), 200)


if __name__ == "__main__":
    unittest.main()
