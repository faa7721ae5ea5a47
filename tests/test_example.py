import unittest

from tests.helper import ask, join, keys, load, other, sums

FIRST = "measures price down ; item a : 10 ; item b : 7 ; item c : 12 ;"
SECOND = "measures cost down, size up ; item x : 3, 5 ; item y : 2, 5 ; item z : 9, 9 ;"


class WorkedExample(unittest.TestCase):
    def test_the_calls_of_the_worked_example(self):
        found = ask(
            load(FIRST), other(SECOND), keys(0, [0, 0, 1]), keys(1, [0, 0, 1]), join(), sums([0], [0]), join()
        )
        self.assertEqual(
            found,
            [[1, 1, 3], [1, 2, 3], [1], [1], [5, 2, 2, 1, 1, 2, 2], [2], [5, 2, 2, 1, 1, 2, 2]],
        )


if __name__ == "__main__":
    unittest.main()
