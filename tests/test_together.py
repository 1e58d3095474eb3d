"""together and dry."""

import unittest

from tests.support import (
    FAR, MOST_ID, Checks, call, dry, gate, last, lines_after, preempt, room, run, seize, state_after, together,
)

# A row of each call that may be a row, each of them done in a new bank in this order.
ROWS = [
    [0, 1, 5, 2], [1, 1, 6, 3, 0, 1], [3, 1, 6], [2, 1, 5], [4, 2, 1], [0, 3, 7, 0], [5, 7],
    [8, 4, 10], [9, 4, 6], [10, 4, 2], [11, 4, 1],
]

LET = {0: 3, 1: 5, 2: 2, 3: 2, 4: 2, 5: 1, 8: 2, 9: 2, 10: 2, 11: 2}


class Done(Checks, unittest.TestCase):
    def test_no_row(self):
        self.assertEqual(run(together(), dry()), [[0, 0], [0, 0]])

    def test_a_row_of_each_call(self):
        self.assertEqual(last(together(*ROWS)), [0, 2, 0, 5, 1, 5])
        self.assertEqual(state_after(together(*ROWS)), ({2: (1, [])}, {4: (10, 4, 1)}))

    def test_all_effects_in_order(self):
        rows = [[1, 9, 6, 8, 1, 0], [1, 9, 7, 9, 1, 1], [1, 8, 7, 1, 0, 1], [5, 7], [3, 9, 6]]
        setup = [seize(9, 5, 7), seize(8, 4)]
        told = [0, 5, 2, 5, 0, 6, 0, 4, 1, 4, 1, 6]
        self.assertEqual(last(*setup, together(*rows)), told)
        self.assertEqual(lines_after(*setup, together(*rows)), {8: [(4, 0, 0)]})
        self.assert_changes_nothing(told, setup, dry(*rows))

    def test_as_the_calls_one_by_one(self):
        self.assertEqual(state_after(together(*ROWS)), state_after(*[call(row[0], row[1:]) for row in ROWS]))

    def test_100_rows(self):
        rows = [[0, 0, 5, 0], [2, 0, 5]] * 49 + [[0, 0, 5, 0], [1, 0, 6, 0, 0, 1]]
        self.assertEqual(last(together(*rows)), [0, 1, 0, 5])
        self.assertEqual(lines_after(together(*rows)), {0: [(6, 1, 0), (5, 0, 0)]})
        self.assert_changes_nothing([0, 1, 0, 5], [], dry(*rows))

    def test_later_calls_see_what_was_done(self):
        self.assertEqual(run(together([0, 0, 5, 0]), seize(0, 6), together([2, 0, 5]), seize(0, 6)),
                         [[0, 0], [1], [0, 0], [0, 0]])


class NotDone(Checks, unittest.TestCase):
    def assert_stops(self, answer, setup, *rows):
        self.assert_changes_nothing(answer, setup, together(*rows))
        self.assert_changes_nothing(answer, setup, dry(*rows))

    def test_not_to_be_done_now(self):
        self.assert_stops([2, 0, 1], [gate(0, 1)], [0, 0, 5, 0])
        self.assert_stops([2, 2, 1], [room(1, 3)], [0, 0, 5, 0], [9, 1, 2], [9, 1, 2], [0, 2, 6, 0])

    def test_each_refusal_of_a_row(self):
        setup = [seize(0, 5), preempt(0, 6), seize(1, 7), room(1, 3)]
        for row, refusal in (
            ([0, 0, 6, 0], -3), ([0, 0, 5, 0], -4), ([2, 0, 5], -6), ([2, 0, 6], -7), ([3, 1, 7], -7),
            ([9, 1, 4], -8), ([10, 1, 1], -8), ([5, 8], -10), ([0, 64, 5, 0], -1),
        ):
            self.assert_stops([2, 0, refusal], setup, row)
            self.assert_stops([2, 3, refusal], setup, [4, 9, 1], [11, 9, 1], [8, 9, 5], row)

    def test_the_hundredth_row(self):
        self.assert_stops([2, 99, -6], [], *[[0, 0, 5, 0], [2, 0, 5]] * 49, [4, 0, 1], [2, 0, 5])

    def test_the_first_that_is_not_done_is_told(self):
        self.assert_stops([2, 1, -10], [], [0, 0, 5, 0], [5, 6], [0, 0, 5, 0], [0, 64, 5, 0])

    def test_every_change_is_undone(self):
        setup = [seize(0, 5), preempt(0, 6), gate(3, 1), room(4, 9), call(9, [4, 3]), call(11, [5, 1])]
        rows = [
            [3, 0, 6], [2, 0, 5], [0, 1, 5, 0], [1, 1, 6, 0, 0, 0], [5, 6], [4, 3, 0], [4, 2, 1],
            [8, 4, 20], [9, 4, 9], [10, 4, 12], [11, 5, 0], [11, 6, 1],
        ]
        self.assertEqual(last(*setup, together(*rows))[0], 0)
        self.assertNotEqual(state_after(*setup, together(*rows)), state_after(*setup))
        self.assert_stops([2, 12, -10], setup, *rows, [5, 99])
        self.assertEqual(last(*setup, together(*rows, [5, 99]), call(3, [0, 6])), [0, 1, 1, 5])

    def test_a_number_out_of_range_is_what_the_row_answers(self):
        for row in ([0, 0, 0, 0], [0, 0, MOST_ID + 1, 0], [0, 0, 5, 1001], [1, 0, 5, 0, 2, 0], [1, 0, 5, 0, 0, -1],
                    [2, -1, 5], [3, 64, 5], [4, 0, 2], [5, 0], [5, FAR], [8, 0, -1], [9, 0, 0], [10, 64, 1],
                    [11, 0, -FAR]):
            self.assert_stops([2, 0, -1], [], row)
            self.assert_stops([2, 1, -1], [], [0, 1, 6, 0], row)


class Form(Checks, unittest.TestCase):
    def assert_bad(self, *rows):
        setup = [seize(0, 5)]
        self.assert_changes_nothing([-2], setup, together(*rows))
        self.assert_changes_nothing([-2], setup, dry(*rows))

    def test_more_than_100_rows(self):
        for count in (101, 102, 199):
            self.assert_bad(*[[4, 0, 0]] * count)

    def test_an_empty_row(self):
        self.assert_bad([])
        self.assert_bad([4, 0, 0], [])
        self.assert_bad([], [4, 0, 0])

    def test_places_that_are_not_let(self):
        for place in [6, 7] + list(range(12, 30)) + [-1, FAR, -FAR]:
            for count in range(6):
                self.assert_bad([place] + [1] * count)

    def test_another_count_of_numbers(self):
        for place, told in LET.items():
            for count in list(range(9)) + [84]:
                if count != told:
                    self.assert_bad([place] + [1] * count)
                    self.assert_bad([4, 1, 0], [place] + [1] * count)

    def test_the_form_of_all_rows_is_asked_before_any_is_done(self):
        self.assert_bad([0, 0, 6, 0], [0, 0, 6])
        self.assert_bad([0, 64, 6, 0], [])
        self.assert_bad([0, 1, 5, 0], [6, 5, 0])
        self.assert_bad(*[[4, 0, 0]] * 99, [12])

    def test_numbers_of_any_size_are_of_the_form(self):
        for place, told in LET.items():
            for number in (FAR, -FAR):
                row = [place] + [number] * told
                self.assertEqual(run(together(row), dry(row)), [[2, 0, -1]] * 2)


class Dry(Checks, unittest.TestCase):
    def test_answers_as_together_and_changes_nothing(self):
        setup = [seize(0, 5), gate(1, 1), room(2, 5)]
        for rows in (ROWS, ROWS[:3], [[2, 0, 5]], [[5, 5], [0, 0, 6, 0]], [[4, 1, 0], [8, 2, 9], [9, 2, 7], [11, 2, 1]],
                     [[0, 1, 5, 0]], [[]], [[4, 0, 0]] * 101, [[4, 64, 0]]):
            self.assert_changes_nothing(last(*setup, together(*rows)), setup, dry(*rows))

    def test_again_and_again(self):
        self.assertEqual(run(dry([0, 0, 5, 0]), dry([0, 0, 5, 0]), together([0, 0, 5, 0]), dry([0, 0, 5, 0])),
                         [[0, 0], [0, 0], [0, 0], [2, 0, -3]])


if __name__ == "__main__":
    unittest.main()
