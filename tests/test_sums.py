import unittest

from tests.helper import ask, join, last, load, other, sums

FIRST = "measures a up, b down, c up, d down ; item x : 1, 2, 3, 4 ; item y : 2, 3, 2, 5 ;"
SECOND = "measures e down, f up, g up ; item u : 1, 1, 1 ; item v : 2, 4, 0 ;"
BOTH = (load(FIRST), other(SECOND))
GREAT = 10 ** 18


class HowManyValues(unittest.TestCase):
    def test_each_sum_makes_two_values_one(self):
        for first, second, count in (([], [], 7), ([0], [1], 6), ([0, 2], [1, 2], 5), ([3, 0, 2], [0, 2, 1], 4)):
            self.assertEqual(last(*BOTH, sums(first, second)), [count])

    def test_all_measures_added_up(self):
        self.assertEqual(last(load(FIRST), other(FIRST), sums([0, 1, 2, 3], [2, 3, 0, 1])), [4])
        self.assertEqual(last(load("measures m down ;"), other("measures n down ;"), sums([0], [0])), [1])

    def test_these_and_no_others(self):
        found = ask(*BOTH, sums([0, 2], [1, 2]), sums([1], [0]), sums([], []))
        self.assertEqual(found[2:], [[5], [6], [7]])
        self.assertEqual(last(*BOTH, sums([0, 1], [1, 0]), sums([], []), join()), last(*BOTH, join()))
        self.assertEqual(
            last(*BOTH, sums([1], [0]), sums([0, 3], [1, 0]), join()), last(*BOTH, sums([0, 3], [1, 0]), join())
        )


class SumsCount(unittest.TestCase):
    def test_what_is_added_up_counts_only_together(self):
        first = load("measures a up ; item p : 1 ; item q : 2 ;")
        second = other("measures b up, c up ; item r : 5, 0 ; item s : 4, 1 ;")
        self.assertEqual(last(first, second, join()), [4, 2, 2, 1, 0, 1, 1])
        self.assertEqual(last(first, second, sums([0], [0]), join()), [4, 2, 2, 1, 0, 1, 1])
        lists = (
            load("measures a up, z up ; item p : 1, 3 ; item q : 2, 0 ;"),
            other("measures b up ; item r : 5 ;"),
        )
        self.assertEqual(last(*lists, join()), [2, 2, 2, 0, 0, 1, 0])
        self.assertEqual(last(*lists, sums([1], [0]), join()), [2, 2, 2, 0, 0, 1, 0])

    def test_a_sum_may_let_a_pair_beat_another_one(self):
        lists = (
            load("measures a down ; item p : 10 ; item q : 20 ;"),
            other("measures b down, c down ; item r : 15, 1 ; item s : 2, 1 ; item t : 4, 0 ;"),
        )
        self.assertEqual(last(*lists, join()), [6, 2, 2, 0, 1, 0, 2])
        crossed = (
            load("measures a up, k down ; item p : 10, 1 ; item q : 20, 2 ;"),
            other("measures b up, l down ; item r : 15, 1 ; item s : 2, 0 ;"),
        )
        self.assertEqual(last(*crossed, join())[:3], [4, 4, 4])
        # Sums (a+b, -(k+l)): 25 -2, 12 -1, 35 -3, 22 -2, so the last is beaten by the first.
        self.assertEqual(last(*crossed, sums([0, 1], [0, 1]), join()), [4, 4, 3, 0, 0, 0, 1, 1, 0])

    def test_down_measures_are_added_up_turned(self):
        lists = (
            load("measures k down, a up ; item p : 1, 10 ; item q : 5, 20 ;"),
            other("measures l down, b up ; item r : 6, 1 ; item s : 2, 0 ;"),
        )
        # Values (a, b, -(k+l)): 10 1 -7, 10 0 -3, 20 1 -11, 20 0 -7.
        self.assertEqual(last(*lists, sums([0], [0]), join()), [4, 4, 4, 0, 0, 0, 1, 1, 0, 1, 1])
        # Values (-(k+l), a+b): -7 11, -3 10, -11 21, -7 20.
        self.assertEqual(last(*lists, sums([0, 1], [0, 1]), join()), [4, 4, 3, 0, 1, 1, 0, 1, 1])


class Refusals(unittest.TestCase):
    def refused(self, number, first, second):
        self.assertEqual(last(*BOTH, sums(first, second)), [number], (first, second))

    def test_no_other_list_ahead_of_all_else(self):
        for first, second in (([], []), ([0], [1]), ([0], []), ([9], [9]), ([0], [0])):
            self.assertEqual(last(load(FIRST), sums(first, second)), [-6])

    def test_lists_of_unlike_lengths(self):
        for first, second in (([0], []), ([], [0]), ([0, 2], [1]), ([0], [1, 2]), ([], list(range(2000)))):
            self.refused(-3, first, second)

    def test_a_measure_that_is_not_there(self):
        for wrong in (-1, -4, 4, GREAT, -GREAT):
            self.refused(-3, [wrong], [1])
            self.refused(-3, [0, wrong], [1, 2])
        for wrong in (-1, -3, 3, GREAT, -GREAT):
            self.refused(-3, [0], [wrong])
            self.refused(-3, [2, 0], [1, wrong])

    def test_one_told_twice(self):
        self.refused(-3, [0, 0], [1, 2])
        self.refused(-3, [0, 2], [1, 1])
        self.refused(-3, [0, 2, 0], [1, 2, 0])
        self.refused(-3, [0] * 2000, [1] * 2000)

    def test_unlike_directions(self):
        self.refused(-5, [0], [0])
        self.refused(-5, [1], [1])
        self.refused(-5, [0, 3], [1, 2])

    def test_wrong_measures_ahead_of_unlike_directions(self):
        self.refused(-3, [0, 1], [0])
        self.refused(-3, [0, 4], [0, 1])
        self.refused(-3, [0, 0], [0, 1])
        self.refused(-3, [1, 2], [1, 1])
        self.refused(-3, [0, 2], [0, -1])

    def test_a_refusal_leaves_the_sums(self):
        lists = (
            load("measures a up, k down ; item p : 10, 1 ; item q : 20, 2 ;"),
            other("measures b up, l down ; item r : 15, 1 ; item s : 2, 0 ;"),
        )
        ready = lists + (sums([0, 1], [0, 1]),)
        joined = last(*ready, join())
        self.assertNotEqual(joined, last(*lists, join()))
        for refused in (sums([0], []), sums([2], [0]), sums([0, 0], [0, 0]), sums([0], [1]), sums([0, 1], [0, 2])):
            self.assertEqual(last(*ready, refused, join()), joined)


if __name__ == "__main__":
    unittest.main()
