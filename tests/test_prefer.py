import itertools
import unittest

from tests.helper import Case, Numbers, ask, forget, last, liked, load, mixed_told, other, prefer, reached_from

ONE = (load("measures m up ; item a : 1 ;"),)
BOTH = ONE + (other("measures n up ; item b : 1 ;"),)
UP = [True]
GREAT = 10 ** 18


def after(ready, *calls):
    return ask(*ready, *calls)[len(ready):]


def tell_all(told):
    return [prefer(one, two) for one, two in told]


def count_preferred(told):
    return sum(len(reached_from(key, told)) for key in range(8))


class Prefer(unittest.TestCase):
    def test_each_two_keys(self):
        for one, two in itertools.permutations(range(8), 2):
            self.assertEqual(last(*BOTH, prefer(one, two)), [1])

    def test_needs_no_other_list(self):
        self.assertEqual(after(ONE, prefer(3, 4), prefer(4, 3), prefer(9, 0), forget()), [[1], [-8], [-4], [1]])

    def test_needs_no_items(self):
        self.assertEqual(last(load("measures m up ;"), prefer(7, 0)), [1])

    def test_no_key(self):
        for wrong in (-1, 8, -8, GREAT, -GREAT):
            for one, two in ((wrong, 0), (7, wrong), (wrong, wrong)):
                self.assertEqual(last(*ONE, prefer(one, two)), [-4])
                self.assertEqual(last(*BOTH, prefer(one, two)), [-4])

    def test_a_key_to_itself(self):
        for key in range(8):
            self.assertEqual(last(*BOTH, prefer(key, key)), [-8])
            self.assertEqual(last(*BOTH, prefer(0, 7), prefer(key, key)), [-8])

    def test_told_again(self):
        self.assertEqual(after(BOTH, prefer(2, 5), prefer(2, 5), prefer(2, 5)), [[1], [1], [1]])
        self.assertEqual(
            after(BOTH, prefer(2, 5), prefer(5, 1), prefer(2, 5), prefer(2, 1)), [[1], [3], [3], [3]]
        )

    def test_to_itself_in_two_steps(self):
        self.assertEqual(after(BOTH, prefer(2, 5), prefer(5, 2)), [[1], [-8]])

    def test_to_itself_in_seven_and_in_eight_steps(self):
        for length in (7, 8):
            row = tell_all(zip(range(length - 1), range(1, length)))
            for order in (row, row[::-1], row[::2] + row[1::2]):
                self.assertEqual(last(*BOTH, *order, prefer(length - 1, 0)), [-8])
                self.assertEqual(last(*BOTH, *order, prefer(0, length - 1)), [length * (length - 1) // 2])

    def test_what_follows_from_several_in_a_row(self):
        self.assertEqual(after(BOTH, prefer(0, 1), prefer(2, 3), prefer(1, 2)), [[1], [2], [6]])
        self.assertEqual(after(BOTH, prefer(0, 2), prefer(1, 2), prefer(2, 3), prefer(2, 4)), [[1], [2], [5], [8]])
        self.assertEqual(after(BOTH, prefer(0, 1), prefer(0, 2), prefer(3, 0)), [[1], [2], [5]])
        self.assertEqual(after(BOTH, prefer(1, 0), prefer(2, 0), prefer(0, 3)), [[1], [2], [5]])

    def test_all_eight_in_a_row_in_whatever_order_told(self):
        row = list(zip(range(7), range(1, 8)))
        for seed in range(40):
            numbers = Numbers(seed)
            order = sorted(row, key=lambda told: numbers.below(1000))
            self.assertEqual(last(*BOTH, *tell_all(order)), [28])

    def test_the_order_of_telling_does_not_count(self):
        for told in ([(0, 1), (1, 2), (0, 3), (3, 2)], [(4, 5), (5, 6), (6, 7), (0, 5)]):
            for order in itertools.permutations(told):
                self.assertEqual(last(*BOTH, *tell_all(order)), [count_preferred(told)])

    def test_against_a_plain_walk(self):
        refused = 0
        for seed in range(300):
            numbers = Numbers(seed)
            told, expected, calls = [], [], []
            for draw in range(20):
                one, two = numbers.below(8), numbers.below(8)
                calls.append(prefer(one, two))
                if one == two or one in reached_from(two, told):
                    expected.append([-8])
                    refused += 1
                else:
                    told.append((one, two))
                    expected.append([count_preferred(told)])
            self.assertEqual(after(BOTH, *calls), expected, seed)
        self.assertGreater(refused, 300)

    def test_a_refused_one_changes_nothing(self):
        ready = BOTH + (prefer(0, 1), prefer(1, 2))
        for refused in (prefer(2, 0), prefer(1, 0), prefer(3, 3), prefer(8, 3), prefer(3, -1), prefer(GREAT, 0)):
            self.assertEqual(after(ready, refused, prefer(0, 1))[1], [3])
            self.assertEqual(after(ready, refused, prefer(3, 0))[1], [6])
            self.assertEqual(after(ready, refused, prefer(2, 3))[1], [6])
            self.assertEqual(after(ready, refused, forget())[1], [2])
        case = Case(UP, [[1], [1], [1]], [0, 1, 2], UP, [[1], [1], [1]], [0, 1, 2], (), [(0, 1)])
        for refused in (prefer(1, 0), prefer(2, 2), prefer(2, 8), prefer(-1, 0)):
            self.assertEqual(case.answered(refused, liked())[1], [2, 0, 0, 2, 2])


class Forget(unittest.TestCase):
    def test_with_none_told(self):
        self.assertEqual(last(*ONE, forget()), [0])
        self.assertEqual(last(*BOTH, forget()), [0])

    def test_with_some_told(self):
        for count in range(1, 8):
            told = tell_all(zip(range(count), range(1, count + 1)))
            self.assertEqual(last(*BOTH, *told, forget()), [count])

    def test_twice_in_a_row(self):
        self.assertEqual(after(BOTH, prefer(0, 1), prefer(1, 2), forget(), forget()), [[1], [3], [2], [0]])

    def test_what_follows_was_not_told(self):
        self.assertEqual(last(*BOTH, prefer(0, 1), prefer(1, 2), forget()), [2])
        self.assertEqual(last(*BOTH, prefer(0, 1), prefer(1, 2), prefer(0, 2), forget()), [3])

    def test_one_told_again_counts_again(self):
        self.assertEqual(last(*BOTH, prefer(0, 1), prefer(0, 1), forget()), [2])
        self.assertEqual(last(*BOTH, prefer(0, 1), prefer(0, 1), prefer(2, 1), prefer(0, 1), forget()), [4])

    def test_one_told_as_often_as_a_line_allows(self):
        self.assertEqual(after(ONE, *[prefer(6, 7)] * 58, forget()), [[1]] * 58 + [[58]])

    def test_told_again_after_forget_begins_anew(self):
        self.assertEqual(
            after(BOTH, prefer(0, 1), prefer(0, 1), forget(), prefer(0, 1), forget()), [[1], [1], [2], [1], [1]]
        )

    def test_told_again_is_forgotten_whole(self):
        self.assertEqual(after(BOTH, prefer(0, 1), prefer(0, 1), forget(), prefer(1, 0))[-1], [1])

    def test_refused_ones_were_not_told(self):
        refused = (prefer(1, 0), prefer(2, 2), prefer(8, 0))
        self.assertEqual(last(*BOTH, prefer(0, 1), *refused, forget()), [1])
        self.assertEqual(last(*BOTH, prefer(0, 1), *refused, *refused, prefer(0, 1), *refused, forget()), [2])

    def test_what_was_forgotten_stands_against_nothing(self):
        self.assertEqual(
            after(BOTH, prefer(0, 1), forget(), prefer(1, 0), prefer(2, 1), forget()), [[1], [1], [1], [3], [2]]
        )

    def test_without_another_list(self):
        self.assertEqual(after(ONE, prefer(0, 1), forget(), forget()), [[1], [1], [0]])

    def test_mixed(self):
        again = 0
        for seed in range(100):
            told = mixed_told(Numbers(seed), 4)
            self.assertEqual(last(*BOTH, *tell_all(told), forget()), [len(told)], seed)
            again += len(set(told)) < len(told)
        self.assertGreater(again, 10)


class Kept(unittest.TestCase):
    def test_load_leaves_no_preferences(self):
        self.assertEqual(after(BOTH, prefer(0, 1), prefer(1, 2), *ONE, forget())[-1], [0])
        self.assertEqual(after(BOTH, prefer(0, 1), prefer(0, 1), *ONE, prefer(0, 1), forget())[-1], [1])
        self.assertEqual(after(BOTH, prefer(0, 1), *ONE, prefer(1, 0))[-1], [1])

    def test_other_leaves_them(self):
        self.assertEqual(after(ONE, prefer(0, 1), prefer(1, 2), BOTH[1], prefer(2, 0), forget())[-2:], [[-8], [2]])
        self.assertEqual(after(BOTH, prefer(0, 1), prefer(1, 2), BOTH[1], forget())[-1], [2])
        self.assertEqual(after(BOTH, prefer(0, 1), BOTH[1], prefer(0, 1), forget())[-1], [2])

    def test_a_text_that_fails_leaves_them(self):
        for call in (load, other):
            found = after(BOTH, prefer(0, 1), prefer(1, 2), call("measures m up ; item"), prefer(2, 0), forget())
            self.assertEqual(found[2:], [[0, 3, 20], [-8], [2]])


if __name__ == "__main__":
    unittest.main()
