import unittest

from bestpairs.joins import answers
from tests.helper import Case, ask, flat, forget, groups, join, keys, last, liked, load, other, pair, prefer, sums

FIRST = "measures p down ; item a : 10 ; item b : 7 ; item c : 12 ;"
SECOND = "measures c down, s up ; item x : 3, 5 ; item y : 2, 5 ; item z : 9, 9 ;"
CALLS = (
    join(), load(FIRST), join(), prefer(0, 2), other(SECOND), keys(0, [0, 0, 1]), keys(1, [0, 0, 1]), join(),
    pair(0, 1), pair(1, 1), pair(0, 2), sums([0], [0]), keys(2, []), sums([0], [1]), prefer(1, 0), prefer(2, 1),
    load("!"), other(""), join(), pair(0, 1), liked(), groups(), forget(), liked(), prefer(0, 1), liked(),
)


class Untouched(list):
    """A list that fails at whatever would change it."""

    def refuse(self, *given, **named):
        raise AssertionError("the list that is handed in is changed")

    append = clear = extend = insert = pop = remove = reverse = sort = refuse
    __setitem__ = __delitem__ = __iadd__ = __imul__ = refuse


class Interface(unittest.TestCase):
    def test_a_count_stands_before_each_answer(self):
        told = answers(flat((load(FIRST), other(SECOND), keys(1, [3]), join())))
        self.assertEqual(told, [3, 1, 1, 3, 3, 1, 2, 3, 1, -4, 7, 9, 2, 2, 1, 1, 1, 2])

    def test_whole_numbers_in_a_list_and_never_true_or_false(self):
        told = answers(flat(CALLS))
        self.assertIs(type(told), list)
        self.assertEqual({type(number) for number in told}, {int})

    def test_how_many_numbers_each_call_takes(self):
        told = answers(
            flat((load(FIRST), other(SECOND)))
            + [2, 0, 3, 0, 0, 1] + [2, 1, 3, 0, 0, 1] + [3, 1, 0, 1, 0] + [4] + [5, 1, 1] + [6, 1, 0] + [7] + [8] + [9]
        )
        self.assertEqual(
            told,
            [3, 1, 1, 3] + [3, 1, 2, 3] + [1, 1] + [1, 1] + [1, 2] + [7, 5, 2, 2, 1, 1, 2, 2] + [3, 1, 5, -9] + [1, 1]
            + [5, 2, 1, 1, 2, 2] + [11, 2, 0, 1, 1, 1, 1, 1, 1, 2, 1, 2] + [1, 1],
        )

    def test_one_call(self):
        for only in ([4], [7], [8], [9], [5, 0, 0], [6, 1, 0]):
            self.assertEqual(answers(only), [1, -1])
        self.assertEqual(answers([0, 0]), [3, 0, 3, 0])
        self.assertEqual(answers([3, 0, 0]), [1, -1])
        self.assertEqual(answers([2, -10 ** 18, 0]), [1, -1])

    def test_sixty_calls_in_any_order(self):
        calls = [load(FIRST), other(SECOND)] + [keys(0, [k % 3, 0, 1]) if k % 2 else join() for k in range(58)]
        found = ask(*calls)
        self.assertEqual(len(found), 60)
        for place in range(2, 60):
            self.assertEqual(found[place], last(*calls[:place + 1]))

    def test_sixty_calls_of_all_kinds(self):
        mixed = [
            keys(0, [0, 1, 1]), pair(2, 2), prefer(2, 1), groups(), keys(1, [1, 0, 1]), liked(), sums([0], [0]),
            prefer(1, 0), join(), other(SECOND), pair(1, 0), forget(), load("?"), prefer(0, 2), pair(7, 0), load(FIRST),
        ]
        calls = [load(FIRST), other(SECOND)] + (mixed * 4)[:58]
        found = ask(*calls)
        self.assertEqual(len(found), 60)
        for place in range(60):
            self.assertEqual(found[place], last(*calls[:place + 1]))

    def test_256_pairs(self):
        rows = [[k, k] for k in range(16)]
        every = [(i, j) for i in range(16) for j in range(16)]
        case = Case([True, False], rows, [0] * 16, [False, True], rows, [0] * 16, (), [(1, 0)])
        items = [16] + list(range(16))
        self.assertEqual(
            case.answered(join(), pair(15, 15), pair(0, 7), liked(), groups(), pair(16, 15), pair(15, 16)),
            [
                [256, 256, 256] + flat(every), [1, 15, -15, -15, 15], [1, 0, 0, -7, 7], [256] + flat(every),
                [1, 0] + items + items, [-2], [-2],
            ],
        )
        # Each pair's values are then a sum and the same with the other sign, so none beats another one.
        summed = case.answered(sums([0, 1], [1, 0]), join(), pair(0, 0), pair(3, 12), liked())
        self.assertEqual(summed[1:], [[256, 256, 256] + flat(every), [1, 0, 0], [1, 15, -15], [256] + flat(every)])
        single = Case([True], [row[:1] for row in rows], [3] * 16, [True], [row[:1] for row in rows], [3] * 16)
        self.assertEqual(
            single.answered(join(), pair(0, 0), pair(15, 14), pair(15, 15), liked(), groups()),
            [
                [256, 1, 1, 15, 15], [0, 15, 15, 0, 0], [0, 15, 15, 15, 14], [1, 15, 15], [1, 15, 15],
                [1, 3, 1, 15, 1, 15],
            ],
        )

    def test_sixty_calls_over_256_pairs(self):
        rows = [[k, k] for k in range(16)]
        case = Case([True, False], rows, [5] * 16, [False, True], rows, [5] * 16)
        found = case.answered(*([join(), liked(), pair(9, 9), groups(), pair(0, 15)] * 11))
        self.assertEqual(found, found[:5] * 11)
        self.assertEqual([found[0][0], found[1][0], found[2]], [256, 256, [1, 9, -9, -9, 9]])

    def test_a_refused_call_is_passed_over_whole(self):
        long_row = [4] * 2000
        self.assertEqual(
            ask(sums(long_row, long_row), keys(0, long_row), other([4] * 4000), load(FIRST), keys(1, long_row), join()),
            [[-1], [-1], [-1], [1, 1, 3], [-6], [-6]],
        )

    def test_the_list_handed_in_is_the_same_afterwards(self):
        given = flat(CALLS)
        kept = list(given)
        answers(given)
        self.assertEqual(given, kept)

    def test_the_list_handed_in_is_not_changed_for_a_while_either(self):
        given = Untouched(flat(CALLS))
        self.assertEqual(answers(given), answers(flat(CALLS)))

    def test_what_is_given_back_is_no_part_of_what_is_kept(self):
        given = flat(CALLS)
        told = answers(given)
        kept = list(told)
        told.clear()
        self.assertEqual(answers(given), kept)

    def test_the_same_twice_and_nothing_kept_in_between(self):
        given = flat(CALLS)
        told = answers(given)
        answers(flat((load(SECOND), other(FIRST), sums([0], [0]), keys(0, [7, 7, 7]), prefer(0, 1), prefer(7, 0))))
        self.assertEqual(answers(given), told)
        self.assertEqual(answers([4]), [1, -1])
        self.assertEqual(last(load(FIRST), forget()), [0])


if __name__ == "__main__":
    unittest.main()
