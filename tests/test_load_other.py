import unittest

from tests.helper import ask, forget, groups, join, keys, last, liked, load, other, pair, prefer, sums

FIRST = "measures p down, q up ; item a : 1, 5 ; item b : 2, 4 ; item c : 3, 9 ;"
SECOND = "measures c down, s up ; item x : 3, 5 ; item y : 2, 5 ; item z : 9, 9 ;"
READY = (load(FIRST), other(SECOND), keys(0, [0, 1, 1]), keys(1, [0, 1, 1]), sums([0], [0]))
FAULTY = (
    ("", [0, 3, 0]),
    ("measures m up ; item a : 1", [0, 3, 26]),
    ("measures m up ; item a : 1 ; item a : 1 ;", [0, 5, 34]),
    ("measures m up ; !", [0, 2, 16]),
    (" " * 4097, [0, 1, 4096]),
)


class FaultyTexts(unittest.TestCase):
    def test_nothing_changes(self):
        ready = last(*READY, join())
        self.assertEqual(ready[0], 5)
        self.assertNotEqual(ready, last(*READY, sums([], []), join()))
        for text, told in FAULTY:
            for call in (load, other):
                found = ask(*READY, call(text), join(), sums([1], [1]), keys(0, [0, 0, 0]), keys(1, [0, 0, 0]))
                self.assertEqual(found[len(READY):], [told, ready, [3], [1], [1]])

    def test_a_first_load_that_fails_leaves_no_list(self):
        for text, told in FAULTY:
            self.assertEqual(ask(load(text), join(), other(SECOND)), [told, [-1], [-1]])

    def test_an_other_that_fails_leaves_no_other_list(self):
        for text, told in FAULTY:
            self.assertEqual(ask(load(FIRST), other(text), join()), [[1, 2, 3], told, [-6]])


class Again(unittest.TestCase):
    def test_load_leaves_no_other_list(self):
        found = ask(*READY, load(FIRST), join(), sums([], []), keys(1, [0, 0, 0]))
        self.assertEqual(found[len(READY):], [[1, 2, 3], [-6], [-6], [-6]])

    def test_load_leaves_no_sums_and_keys_0(self):
        fresh = last(load(FIRST), other(SECOND), join())
        self.assertEqual(last(*READY, load(FIRST), other(SECOND), join()), fresh)
        self.assertEqual(fresh[0], 9)

    def test_other_sets_its_keys_0_and_the_first_keys_stay(self):
        found = last(*READY, other(SECOND), join())
        self.assertEqual(found, last(load(FIRST), keys(0, [0, 1, 1]), other(SECOND), join()))
        self.assertEqual(found[0], 3)

    def test_other_leaves_no_sums(self):
        again = keys(1, [0, 1, 1])
        found = last(*READY, other(SECOND), again, join())
        self.assertEqual(found, last(*READY, sums([], []), join()))
        self.assertNotEqual(found, last(*READY, other(SECOND), again, sums([0], [0]), join()))

    def test_another_list_of_another_size(self):
        found = ask(*READY, other("measures w up ; item x : 1 ;"), keys(1, [0, 1, 1]), keys(1, [1]), join())
        self.assertEqual(found[len(READY):], [[1, 1, 1], [-4], [1], [2, 2, 2, 1, 0, 2, 0]])

    def test_first_list_of_another_size(self):
        found = ask(*READY, load("measures w up ; item x : 1 ;"), keys(0, [0, 1, 1]), keys(0, [1]))
        self.assertEqual(found[len(READY):], [[1, 1, 1], [-4], [1]])


class NoList(unittest.TestCase):
    def test_every_call_but_load_is_refused(self):
        refused = [
            other(SECOND), other(""), keys(0, []), keys(5, [9]), keys(1, []), sums([], []), sums([1], []), join(),
            pair(0, 0), pair(-1, 10 ** 18), prefer(1, 0), prefer(0, 0), prefer(8, -1), liked(), groups(), forget(),
        ]
        self.assertEqual({call[0] for call in refused}, set(range(1, 10)))
        self.assertEqual(ask(*refused), [[-1]] * len(refused))
        self.assertEqual(ask(load(""), *refused), [[0, 3, 0]] + [[-1]] * len(refused))
        found = ask(*refused, load(FIRST), join(), forget())
        self.assertEqual(found[len(refused):], [[1, 2, 3], [-6], [0]])

    def test_without_another_list_just_those_that_need_it_are_refused(self):
        needing = (keys(1, []), sums([], []), join(), pair(0, 0), liked(), groups())
        self.assertEqual(ask(load(FIRST), *needing), [[1, 2, 3]] + [[-6]] * len(needing))
        self.assertEqual(
            ask(load(FIRST), keys(0, [1, 2, 3]), prefer(1, 2), forget(), other(SECOND)),
            [[1, 2, 3], [1], [1], [1], [1, 2, 3]],
        )

    def test_a_list_without_items_is_a_list(self):
        self.assertEqual(
            ask(load("measures m up ;"), keys(0, []), other("measures m up ;"), keys(1, []), join()),
            [[1, 1, 0], [1], [1, 1, 0], [1], [0, 0, 0]],
        )


if __name__ == "__main__":
    unittest.main()
