"""safe."""

import unittest

from tests.support import FAR, MOST_ID, Checks, call, close, enter, joined, last, room, run, safe

# Ten units of room, of which seven are used: three are free.
SETUP = [room(7, 10), enter(7, 7)]


class Safe(Checks, unittest.TestCase):
    def test_no_claims(self):
        self.assertEqual(run(safe(0), safe(63)), [[0, 0], [0, 0]])
        self.assertEqual(last(*SETUP, safe(7)), [0, 0])

    def test_new_storage(self):
        self.assertEqual(last(safe(7, [5, 0, 0], [4, 0, 0])), [0, 2, 5, 4])
        self.assertEqual(last(safe(7, [5, 0, 1], [4, 0, 0])), [1, 1, 4])
        self.assertEqual(last(safe(7, [5, 0, 1])), [1, 0])

    def test_just_enough_and_one_too_many(self):
        self.assertEqual(last(*SETUP, safe(7, [5, 0, 3])), [0, 1, 5])
        self.assertEqual(last(*SETUP, safe(7, [5, 0, 4])), [1, 0])
        self.assertEqual(last(*SETUP, safe(7, [5, 7, 10])), [0, 1, 5])
        self.assertEqual(last(*SETUP, safe(7, [5, 7, 11])), [1, 0])

    def test_what_one_has_is_free_behind_it(self):
        self.assertEqual(last(*SETUP, safe(7, [5, 2, 5], [6, 1, 6])), [0, 2, 5, 6])
        self.assertEqual(last(*SETUP, safe(7, [5, 2, 5], [6, 1, 7])), [1, 1, 5])
        self.assertEqual(last(*SETUP, safe(7, [6, 1, 6], [5, 2, 5])), [0, 2, 5, 6])

    def test_what_is_used_by_nobody_named_does_not_come_free(self):
        self.assertEqual(last(*SETUP, safe(7, [5, 2, 5], [6, 0, 6])), [1, 1, 5])

    def test_none_can(self):
        self.assertEqual(last(*SETUP, safe(7, [5, 2, 6], [6, 3, 7], [8, 2, 9])), [1, 0])

    def test_the_first_in_the_lists_order_each_time(self):
        # 4 can't at first; 3 ends, and then 4 goes before those behind it.
        self.assertEqual(last(*SETUP, safe(7, [4, 0, 5], [3, 2, 4], [2, 0, 1], [1, 5, 8])), [0, 4, 3, 4, 2, 1])
        self.assertEqual(last(*SETUP, safe(7, [1, 0, 10], [2, 0, 3], [3, 5, 8], [4, 2, 10])), [0, 4, 2, 3, 4, 1])

    def test_some_can(self):
        self.assertEqual(last(*SETUP, safe(7, [9, 1, 50], [3, 2, 4], [8, 0, 11], [1, 4, 9])), [1, 2, 3, 1])

    def test_nothing_free(self):
        setup = [room(7, 10), enter(7, 10)]
        self.assertEqual(last(*setup, safe(7, [5, 4, 5], [6, 3, 3])), [0, 2, 6, 5])
        self.assertEqual(last(*setup, safe(7, [5, 4, 5], [6, 3, 4])), [1, 0])

    def test_most_0(self):
        self.assertEqual(last(*SETUP, safe(7, [5, 0, 0])), [0, 1, 5])

    def test_shut_does_not_matter(self):
        for claims in ([[5, 2, 5], [6, 1, 6]], [[5, 2, 6]], [[5, 8, 8]], []):
            self.assertEqual(last(*SETUP, close(7, 1), safe(7, *claims)), last(*SETUP, safe(7, *claims)))
        self.assertEqual(last(*SETUP, close(7, 1), safe(7, [5, 2, 5], [6, 1, 6])), [0, 2, 5, 6])

    def test_the_storage_that_is_named(self):
        setup = [*SETUP, room(8, 4), enter(8, 1)]
        self.assertEqual(run(*setup, safe(7, [5, 2, 5]), safe(8, [5, 2, 5]), safe(8, [5, 1, 5]), safe(8, [5, 1, 4]),
                             safe(9, [5, 0, 1]))[4:], [[0, 1, 5], [-8], [1, 0], [0, 1, 5], [1, 0]])

    def test_the_greatest_numbers(self):
        setup = [room(0, MOST_ID), enter(0, MOST_ID)]
        self.assertEqual(last(*setup, safe(0, [MOST_ID, MOST_ID, MOST_ID], [1, 0, MOST_ID])), [0, 2, MOST_ID, 1])
        self.assertEqual(last(*setup, safe(0, [1, 0, MOST_ID], [MOST_ID, MOST_ID, MOST_ID])), [0, 2, MOST_ID, 1])
        self.assertEqual(last(*setup, safe(0, [1, MOST_ID - 1, MOST_ID])), [1, 0])

    def test_100_claims_that_end_from_the_last_to_the_first(self):
        setup = [room(7, 101), enter(7, 100)]
        claims = [[x, 1, 102 - x] for x in range(1, 101)]
        self.assertEqual(last(*setup, safe(7, *claims)), [0, 100] + list(range(100, 0, -1)))
        self.assertEqual(last(*setup, safe(7, *claims[::-1])), [0, 100] + list(range(100, 0, -1)))
        claims[40] = [41, 1, 62]
        self.assertEqual(last(*setup, safe(7, *claims)), [1, 59] + list(range(100, 41, -1)))

    def test_changes_nothing(self):
        for claims in ([], [[5, 2, 5], [6, 1, 6]], [[5, 2, 6]]):
            self.assert_changes_nothing(last(*SETUP, safe(7, *claims)), SETUP, safe(7, *claims))


class Refused(Checks, unittest.TestCase):
    def assert_bad(self, *claims):
        for setup in ([], SETUP):
            self.assert_changes_nothing([-2], setup, safe(7, *claims))

    def test_no_whole_triples(self):
        for length in range(1, 14):
            row = joined([[x, 0, 1] for x in range(1, 9)])[:length]
            if length % 3:
                self.assert_bad(row)
            else:
                self.assertEqual(last(*SETUP, call(24, [7], [row]))[0], 0)

    def test_ids(self):
        for x in (0, -1, MOST_ID + 1, FAR, -FAR):
            self.assert_bad([x, 0, 0])
            self.assert_bad([5, 0, 0], [x, 0, 0])
        for x in (1, MOST_ID):
            self.assertEqual(last(safe(7, [x, 0, 0])), [0, 1, x])

    def test_units(self):
        for units in (-1, -FAR):
            self.assert_bad([5, units, 0])
            self.assert_bad([6, 0, 0], [5, units, 5])

    def test_units_greater_than_the_most(self):
        for units, most in ((1, 0), (6, 5), (FAR, 5), (MOST_ID, MOST_ID - 1)):
            self.assert_bad([5, units, most])
            self.assert_bad([6, 0, 0], [5, units, most], [7, 0, 0])
        self.assertEqual(last(*SETUP, safe(7, [5, 5, 5])), [0, 1, 5])

    def test_most(self):
        for most in (-1, MOST_ID + 1, FAR, -FAR):
            self.assert_bad([5, 0, most])
            self.assert_bad([5, most, most])
        self.assertEqual(last(safe(7, [5, 0, MOST_ID])), [1, 0])

    def test_an_id_twice(self):
        self.assert_bad([5, 0, 0], [5, 0, 0])
        self.assert_bad([5, 0, 0], [5, 1, 2])
        self.assert_bad([5, 0, 0], [6, 0, 0], [5, 1, 1])

    def test_100_claims_and_101(self):
        claims = [[x, 0, 0] for x in range(1, 102)]
        self.assertEqual(last(safe(7, *claims[:100])), [0, 100] + list(range(1, 101)))
        self.assert_bad(*claims)

    def test_more_units_together_than_are_used(self):
        self.assert_changes_nothing([-8], [], safe(7, [5, 1, 1]))
        self.assert_changes_nothing([-8], SETUP, safe(7, [5, 8, 8]))
        self.assert_changes_nothing([-8], SETUP, safe(7, [5, 4, 8], [6, 4, 4]))
        self.assert_changes_nothing([-8], SETUP + [close(7, 1)], safe(7, [5, 8, 100]))
        self.assert_changes_nothing([-8], SETUP, safe(7, *[[x, MOST_ID, MOST_ID] for x in range(1, 101)]))
        self.assertEqual(last(*SETUP, safe(7, [5, 4, 8], [6, 3, 4])), [0, 2, 6, 5])

    def test_the_form_is_asked_before_the_units(self):
        self.assert_bad([5, 8, 8], [5, 8, 8])
        self.assert_bad([5, 8, 8], [6, 9, 8])
        self.assert_bad([5, 8, 8], [6])
        self.assert_bad(*[[x, 1, 1] for x in range(1, 102)])


if __name__ == "__main__":
    unittest.main()
