import unittest

from tests.helper import ask, groups, join, keys, liked, load, other, pair, prefer, sums

FIRST = "measures price down ; item a : 10 ; item b : 7 ; item c : 12 ;"
SECOND = "measures cost down, size up ; item x : 3, 5 ; item y : 2, 5 ; item z : 9, 9 ;"
WORKED = (
    (load(FIRST), [1, 1, 3]),
    (other(SECOND), [1, 2, 3]),
    (keys(0, [0, 0, 1]), [1]),
    (keys(1, [0, 0, 1]), [1]),
    (join(), [5, 2, 2, 1, 1, 2, 2]),
    (pair(1, 1), [1, -7, -2, 5]),
    (pair(0, 1), [0, 1, 1, -10, -2, 5]),
    (pair(0, 2), [-5]),
    (groups(), [2, 0, 1, 1, 1, 1, 1, 1, 2, 1, 2]),
    (sums([0], [0]), [2]),
    (pair(1, 1), [1, 5, -9]),
    (prefer(1, 0), [1]),
    (prefer(0, 1), [-8]),
    (liked(), [2, 1, 1, 2, 2]),
)


class WorkedExample(unittest.TestCase):
    def test_the_whole_worked_example(self):
        self.assertEqual(ask(*[call for call, told in WORKED]), [told for call, told in WORKED])


if __name__ == "__main__":
    unittest.main()
