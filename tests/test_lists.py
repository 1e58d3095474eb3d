"""all and one: the calls that have a list of facilities."""

import unittest

from tests.support import FAR, Checks, all_of, gate, last, lines_after, one, preempt, run, seize, state_after

EVERY = list(range(64))


class ListForm(Checks, unittest.TestCase):
    def assert_bad_list(self, places):
        for many in (all_of, one):
            self.assert_changes_nothing([-2], [], many(5, 7, places))
            self.assert_changes_nothing([-2], [seize(0, 5), gate(1, 1)], many(5, 7, places))

    def test_empty(self):
        self.assert_bad_list([])

    def test_out_of_range(self):
        for number in (-1, 64, FAR, -FAR):
            self.assert_bad_list([number])
            self.assert_bad_list([3, number])
            self.assert_bad_list([number, 3])
            self.assert_bad_list([3, number, 4])

    def test_twice(self):
        self.assert_bad_list([3, 3])
        self.assert_bad_list([3, 4, 3])
        self.assert_bad_list([4, 3, 5, 3])
        self.assert_bad_list([0, 1, 0])

    def test_more_than_there_are_facilities(self):
        self.assert_bad_list(EVERY + [0])
        self.assert_bad_list(EVERY + [64])
        self.assert_bad_list(list(range(4100)))

    def test_the_form_is_asked_before_who_stands(self):
        for many in (all_of, one):
            self.assert_changes_nothing([-2], [seize(3, 5)], many(5, 0, [3, 3]))
            self.assert_changes_nothing([-2], [seize(3, 5)], many(5, 0, [3, 64]))

    def test_range_is_asked_before_the_form(self):
        for many in (all_of, one):
            self.assert_changes_nothing([-1], [], many(0, 0, []))
            self.assert_changes_nothing([-1], [], many(5, 1001, [3, 3]))


class Standing(Checks, unittest.TestCase):
    SETUP = [seize(10, 5), seize(20, 5), preempt(20, 6), seize(30, 5), gate(30, 1)]

    def test_the_first_of_the_list_at_which_x_stands(self):
        for many in (all_of, one):
            self.assert_changes_nothing([-3], self.SETUP, many(5, 0, [10, 20]))
            self.assert_changes_nothing([-4], self.SETUP, many(5, 0, [20, 10]))
            self.assert_changes_nothing([-3], self.SETUP, many(5, 0, [1, 10, 2, 20]))
            self.assert_changes_nothing([-4], self.SETUP, many(5, 0, [2, 20, 1, 10]))
            self.assert_changes_nothing([-3], self.SETUP, many(5, 0, [30]))

    def test_asked_of_the_whole_list_whichever_may_be_taken(self):
        for many in (all_of, one):
            self.assert_changes_nothing([-3], self.SETUP, many(5, 0, [0, 1, 2, 10]))
            self.assert_changes_nothing([-4], self.SETUP, many(5, 0, [0, 1, 2, 20]))

    def test_comes_before_what_cannot_be_done_now(self):
        for many in (all_of, one):
            self.assert_changes_nothing([-4], self.SETUP + [seize(0, 7)], many(5, 0, [0, 20]))
            self.assert_changes_nothing([-3], self.SETUP + [gate(0, 1)], many(5, 0, [0, 10]))

    def test_standing_outside_the_list_does_not_matter(self):
        for many in (all_of, one):
            self.assertEqual(last(*self.SETUP, many(5, 0, [1]))[0], 0)


class AllOf(Checks, unittest.TestCase):
    def test_each_is_taken(self):
        calls = [all_of(5, -7, [9, 3, 63, 0])]
        self.assertEqual(run(*calls), [[0, 0]])
        self.assertEqual(lines_after(*calls), {f: [(5, 0, -7)] for f in (9, 3, 63, 0)})

    def test_one_facility(self):
        self.assertEqual(run(all_of(5, 0, [0]), all_of(6, 0, [63])), [[0, 0], [0, 0]])

    def test_all_64(self):
        for places in (EVERY, EVERY[::-1]):
            self.assertEqual(last(all_of(5, 1, places)), [0, 0])
            self.assertEqual(lines_after(all_of(5, 1, places)), {f: [(5, 0, 1)] for f in range(64)})

    def test_none_is_taken_when_one_cannot_be(self):
        for setup in ([seize(3, 6)], [gate(3, 1)], [preempt(3, 6)], [seize(3, 6), gate(3, 1)]):
            for places in ([3], [3, 4, 5], [4, 3, 5], [4, 5, 3], EVERY):
                self.assert_changes_nothing([1], setup, all_of(5, 0, places))


class One(Checks, unittest.TestCase):
    def test_the_first_of_the_list_is_taken(self):
        calls = [one(5, -7, [9, 3, 63])]
        self.assertEqual(run(*calls), [[0, 1, 3, 9]])
        self.assertEqual(lines_after(*calls), {9: [(5, 0, -7)]})

    def test_held_and_shut_ones_are_passed_over(self):
        calls = [seize(9, 6), gate(3, 1), one(5, 4, [9, 3, 63, 0])]
        self.assertEqual(last(*calls), [0, 1, 3, 63])
        self.assertEqual(state_after(*calls), ({9: (0, [(6, 0, 0)]), 3: (1, []), 63: (0, [(5, 0, 4)])}, {}))

    def test_the_last_of_64(self):
        setup = [all_of(6, 0, EVERY[1:])]
        self.assertEqual(last(*setup, one(5, 0, EVERY[::-1])), [0, 1, 3, 0])

    def test_64_in_rising_order(self):
        self.assertEqual(run(*[one(x, 0, EVERY) for x in range(1, 66)]), [[0, 1, 3, f] for f in range(64)] + [[1]])

    def test_none_may_be_taken(self):
        setup = [seize(9, 6), gate(3, 1), preempt(2, 7)]
        self.assert_changes_nothing([1], setup, one(5, 0, [9]))
        self.assert_changes_nothing([1], setup, one(5, 0, [3, 9, 2]))
        self.assert_changes_nothing([1], [all_of(6, 0, EVERY)], one(5, 0, EVERY))


if __name__ == "__main__":
    unittest.main()
