import unittest

from tests.helper import ask, join, keys, last, load, other

FIRST = "measures p down ; item a : 1 ; item b : 2 ;"
SECOND = "measures c down ; item x : 3 ; item y : 2 ; item z : 9 ;"
ONE = (load(FIRST),)
BOTH = (load(FIRST), other(SECOND))
GREAT = 10 ** 18


class Keys(unittest.TestCase):
    def test_all_keys_from_0_to_7(self):
        for key in range(8):
            self.assertEqual(last(*BOTH, keys(0, [key, 7 - key])), [1])
            self.assertEqual(last(*BOTH, keys(1, [key, 0, 7])), [1])

    def test_the_keys_are_those_of_the_list_that_is_told(self):
        self.assertEqual(last(*BOTH, keys(0, [1, 2]), keys(1, [2, 3, 1]), join()), [2, 2, 2, 0, 2, 1, 0])
        self.assertEqual(last(*BOTH, keys(0, [1, 2]), join()), [0, 0, 0])
        self.assertEqual(last(*BOTH, keys(1, [1, 2, 0]), join()), [2, 1, 1, 0, 2])

    def test_keys_are_given_anew(self):
        self.assertEqual(last(*BOTH, keys(0, [5, 5]), keys(0, [0, 4]), join()), [3, 1, 1, 0, 1])

    def test_the_first_list_needs_no_other(self):
        found = ask(*ONE, keys(0, [3, 3]), other(SECOND), keys(1, [3, 3, 0]), join())
        self.assertEqual(found[1:], [[1], [1, 1, 3], [1], [4, 1, 1, 0, 1]])

    def test_w_is_neither(self):
        for which in (-1, 2, 7, GREAT, -GREAT):
            for given in ([0, 0], [], [9]):
                self.assertEqual(last(*ONE, keys(which, given)), [-2])
                self.assertEqual(last(*BOTH, keys(which, given)), [-2])

    def test_no_other_list_ahead_of_wrong_keys(self):
        for given in ([0, 0], [], [8, 0], [0] * 2000):
            self.assertEqual(last(*ONE, keys(1, given)), [-6])

    def test_too_few_and_too_many(self):
        for given in ([], [0], [0, 0, 0], [0] * 2000):
            self.assertEqual(last(*BOTH, keys(0, given)), [-4])
        for given in ([], [0, 0], [0, 0, 0, 0], [0] * 2000):
            self.assertEqual(last(*BOTH, keys(1, given)), [-4])

    def test_a_number_that_is_no_key(self):
        for wrong in (-1, 8, GREAT, -GREAT):
            self.assertEqual(last(*BOTH, keys(0, [wrong, 0])), [-4])
            self.assertEqual(last(*BOTH, keys(0, [0, wrong])), [-4])
            self.assertEqual(last(*BOTH, keys(1, [7, 0, wrong])), [-4])

    def test_a_refusal_leaves_all_keys(self):
        ready = BOTH + (keys(0, [1, 2]), keys(1, [2, 3, 1]))
        joined = last(*ready, join())
        for refused in (keys(0, [2, 8]), keys(0, [2]), keys(1, [1, 1, -1]), keys(2, [2, 2]), keys(-1, [1, 1, 1])):
            self.assertEqual(last(*ready, refused, join()), joined)


if __name__ == "__main__":
    unittest.main()
