import unittest

from bestpairs.joins import answers
from tests.helper import ask, join, keys, last, load, other, sums

FIRST = "measures p down ; item a : 10 ; item b : 7 ; item c : 12 ;"
SECOND = "measures c down, s up ; item x : 3, 5 ; item y : 2, 5 ; item z : 9, 9 ;"
CALLS = (
    join(), load(FIRST), join(), other(SECOND), keys(0, [0, 0, 1]), keys(1, [0, 0, 1]), join(), sums([0], [0]),
    keys(2, []), sums([0], [1]), load("!"), other(""), join(),
)


def flat(calls):
    return [number for call in calls for number in call]


class Untouched(list):
    """A list that fails at whatever would change it."""

    def refuse(self, *given, **named):
        raise AssertionError("the list that is handed in is changed")

    append = clear = extend = insert = pop = remove = reverse = sort = refuse
    __setitem__ = __delitem__ = __iadd__ = __imul__ = refuse


class Interface(unittest.TestCase):
    def test_a_count_stands_before_each_answer(self):
        told = answers(flat((load(FIRST), other(SECOND), keys(1, [3]), join())))
        self.assertEqual(told, [3, 1, 1, 3, 3, 1, 2, 3, 1, -4, 7, 9, 2, 2, 1, 1, 1, 2])

    def test_whole_numbers_in_a_list_and_never_true_or_false(self):
        told = answers(flat(CALLS))
        self.assertIs(type(told), list)
        self.assertEqual({type(number) for number in told}, {int})

    def test_one_call(self):
        self.assertEqual(answers([4]), [1, -1])
        self.assertEqual(answers([0, 0]), [3, 0, 3, 0])
        self.assertEqual(answers([3, 0, 0]), [1, -1])
        self.assertEqual(answers([2, -10 ** 18, 0]), [1, -1])

    def test_sixty_calls_in_any_order(self):
        calls = [load(FIRST), other(SECOND)] + [keys(0, [k % 3, 0, 1]) if k % 2 else join() for k in range(58)]
        found = ask(*calls)
        self.assertEqual(len(found), 60)
        for place in range(2, 60):
            self.assertEqual(found[place], last(*calls[:place + 1]))

    def test_a_refused_call_is_passed_over_whole(self):
        long_row = [4] * 2000
        self.assertEqual(
            ask(sums(long_row, long_row), keys(0, long_row), other([4] * 4000), load(FIRST), keys(1, long_row), join()),
            [[-1], [-1], [-1], [1, 1, 3], [-6], [-6]],
        )

    def test_the_list_handed_in_is_the_same_afterwards(self):
        given = flat(CALLS)
        kept = list(given)
        answers(given)
        self.assertEqual(given, kept)

    def test_the_list_handed_in_is_not_changed_for_a_while_either(self):
        given = Untouched(flat(CALLS))
        self.assertEqual(answers(given), answers(flat(CALLS)))

    def test_what_is_given_back_is_no_part_of_what_is_kept(self):
        given = flat(CALLS)
        told = answers(given)
        kept = list(told)
        told.clear()
        self.assertEqual(answers(given), kept)

    def test_the_same_twice_and_nothing_kept_in_between(self):
        given = flat(CALLS)
        told = answers(given)
        answers(flat((load(SECOND), other(FIRST), sums([0], [0]), keys(0, [7, 7, 7]))))
        self.assertEqual(answers(given), told)
        self.assertEqual(answers([4]), [1, -1])


if __name__ == "__main__":
    unittest.main()
