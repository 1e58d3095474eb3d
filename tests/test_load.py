"""load and clear."""

import unittest

from tests.support import (
    FAR, MOST_ID, Checks, all_of, back, call, clear, close, counts, enter, gate, halted, holder, idle, joined, last,
    load, part, place, preempt, release, room, run, seize, state_after, storage, told, told_lists,
)
from tests.test_looks import EVERY, TANGLE

FACILITIES, STORAGES = told_lists(last(*TANGLE, told()))

# Another bank than the one that is loaded, so that what stays behind of it is seen.
OTHER = [all_of(9, 9, [0, 2, 30, 63]), preempt(2, 8), gate(5, 1), gate(9, 1), room(3, 99), enter(3, 98), room(9, 1),
         close(9, 1), close(0, 1)]


class Load(Checks, unittest.TestCase):
    def test_what_is_told_is_told_again(self):
        for setup in ([], OTHER, TANGLE):
            calls = setup + [load(FACILITIES, STORAGES)]
            self.assertEqual(last(*calls), [0, 0])
            self.assertEqual(state_after(*calls), state_after(*TANGLE))
            self.assertEqual(last(*calls, told()), last(*TANGLE, told()))

    def test_two_empty_lists_give_a_new_bank(self):
        for setup in ([], OTHER, TANGLE):
            self.assertEqual(run(*setup, load(), told())[-2:], [[0, 0], [0, 0]])
            self.assertEqual(state_after(*setup, load()), ({}, {}))

    def test_one_empty_list(self):
        self.assertEqual(run(*OTHER, load(FACILITIES), told())[-2:],
                         [[0, 0], [len(FACILITIES)] + FACILITIES + [0]])
        self.assertEqual(run(*OTHER, load([], STORAGES), told())[-2:], [[0, 0], [0, len(STORAGES)] + STORAGES])

    def test_what_is_not_told_is_as_in_a_new_bank(self):
        calls = [*OTHER, load(part(7, 1, [5, 0, 3]), [7, 4, 4, 1])]
        self.assertEqual(state_after(*calls), ({7: (1, [(5, 0, 3)])}, {7: (4, 4, 1)}))
        self.assertEqual(run(*calls, idle(), counts(), halted(), place(9), storage(3), holder(2))[len(calls):],
                         [[63] + [f for f in EVERY if f != 7], [1, 0, 4, 4], [0], [0, 0], [0, 0, 0], [0, 0]])

    def test_all_64_of_each_at_the_edges(self):
        facilities = joined([part(f, f % 2, [MOST_ID, 1, 1000], [1, 0, -1000]) for f in EVERY])
        storages = joined([[s, MOST_ID, MOST_ID, s % 2] for s in EVERY])
        self.assertEqual(run(load(facilities, storages), told()),
                         [[0, 0], [len(facilities)] + facilities + [256] + storages])

    def test_calls_go_on_from_what_is_loaded(self):
        calls = [load(FACILITIES, STORAGES), back(40, 6), release(40, 5), seize(40, 1), back(30, 8), seize(9, 1),
                 enter(3, 6), enter(3, 1), enter(1, 1), seize(0, 9)]
        self.assertEqual(run(*calls)[1:], [[0, 1, 1, 5], [0, 0], [0, 0], [0, 1, 1, 5], [1], [0, 0], [1], [1], [0, 0]])

    def test_loaded_twice(self):
        calls = [load(FACILITIES, STORAGES), seize(0, 9), preempt(7, 3, 10, 1), load(FACILITIES, STORAGES)]
        self.assertEqual(state_after(*calls), state_after(*TANGLE))

    def test_the_lists_are_not_mixed_up(self):
        self.assertEqual(state_after(load([4, 1, 0], [4, 0, 0, 1])), ({4: (1, [])}, {4: (0, 0, 1)}))
        self.assert_changes_nothing([-2], [], load([4, 0, 0, 1], [4, 1, 0]))


class Refused(Checks, unittest.TestCase):
    def assert_bad(self, facilities, storages=()):
        for setup in ([], OTHER):
            self.assert_changes_nothing([-2], setup, load(facilities, storages))

    def assert_bad_facilities(self, *numbers):
        """Bad by itself, behind a good part, in front of one, and with good storages."""
        bad = list(numbers)
        self.assert_bad(bad)
        self.assert_bad(bad, STORAGES)
        self.assert_bad([0, 1, 0] + bad)
        self.assert_bad(bad + [63, 1, 0])

    def assert_bad_storages(self, *numbers):
        bad = list(numbers)
        self.assert_bad([], bad)
        self.assert_bad(FACILITIES, bad)
        self.assert_bad([], [0, 5, 0, 0] + bad)
        self.assert_bad([], bad + [63, 5, 0, 0])

    def assert_good(self, facilities, storages=()):
        self.assertEqual(run(*OTHER, load(facilities, storages), told())[-2:],
                         [[0, 0], [len(facilities), *facilities, len(storages), *storages]])

    def test_facilities_cut_short(self):
        # Behind these many numbers a part ends.
        ends = (0, 9, 15, 18, 30, 39, 45)
        self.assertEqual(len(FACILITIES), 45)
        for length in range(46):
            if length in ends:
                self.assert_good(FACILITIES[:length], STORAGES)
            else:
                self.assert_bad(FACILITIES[:length], STORAGES)

    def test_storages_cut_short(self):
        self.assertEqual(len(STORAGES), 12)
        for length in range(13):
            if length % 4 == 0:
                self.assert_good(FACILITIES, STORAGES[:length])
            else:
                self.assert_bad(FACILITIES, STORAGES[:length])

    def test_facilities_that_do_not_rise(self):
        self.assert_good([4, 1, 0, 5, 1, 0])
        self.assert_bad([4, 1, 0, 4, 1, 0])
        self.assert_bad([5, 1, 0, 4, 1, 0])
        self.assert_bad([0, 1, 0, 0, 1, 0])
        self.assert_bad([1, 1, 0, 2, 1, 0, 1, 1, 0])
        self.assert_bad(part(4, 0, [5, 0, 0]) + part(4, 0, [6, 0, 0]))

    def test_facilities_out_of_range(self):
        for f in (-1, 64, FAR, -FAR):
            self.assert_bad_facilities(f, 1, 0)
            self.assert_bad_facilities(*part(f, 0, [5, 0, 0]))
        for f in (0, 63):
            self.assert_good([f, 1, 0])

    def test_shut_neither_1_nor_0(self):
        for shut in (-1, 2, FAR, -FAR):
            self.assert_bad_facilities(4, shut, 0)
            self.assert_bad_facilities(*part(4, shut, [5, 0, 0]))
            self.assert_bad_storages(4, 5, 0, shut)
            self.assert_bad_storages(4, 0, 0, shut)

    def test_numbers_of_entries_out_of_range(self):
        for size in (-1, -2, 1002, FAR, -FAR):
            for shut in (0, 1):
                self.assert_bad_facilities(4, shut, size)
                self.assert_bad_facilities(4, shut, size, 5, 0, 0)

    def test_numbers_of_entries_that_do_not_fit_what_follows(self):
        for size in (2, 3, 1000, 1001):
            self.assert_bad_facilities(4, 0, size, 5, 1, 0)
        self.assert_bad_facilities(4, 0, 1, 600, 1, 1, 500, 1, 0)
        self.assert_bad_facilities(4, 1, 0, 5, 0, 0)
        self.assert_bad_facilities(4, 0, 1, 5, 0)
        self.assert_bad_facilities(4, 0, 1, 5, 0, 0, 0)

    def test_ids(self):
        for x in (0, -1, MOST_ID + 1, FAR, -FAR):
            self.assert_bad_facilities(*part(4, 0, [x, 0, 0]))
            self.assert_bad_facilities(*part(4, 1, [5, 1, 0], [x, 0, 0]))
        for x in (1, MOST_ID):
            self.assert_good(part(4, 0, [x, 0, 0]))

    def test_ways(self):
        for way in (-1, 2, FAR, -FAR):
            self.assert_bad_facilities(*part(4, 0, [5, way, 0]))
            self.assert_bad_facilities(*part(4, 0, [5, way, 1], [6, 0, 0]))
            self.assert_bad_facilities(*part(4, 0, [5, 1, 1], [6, way, 0]))
        for way in (0, 1):
            self.assert_good(part(4, 0, [5, way, 0]))

    def test_priorities(self):
        for p in (-1001, 1001, FAR, -FAR):
            self.assert_bad_facilities(*part(4, 0, [5, 0, p]))
            self.assert_bad_facilities(*part(4, 0, [5, 1, 0], [6, 0, p]))
            self.assert_bad_facilities(*part(4, 0, [5, 1, p], [6, 0, 0]))
        for p in (-1000, 1000):
            self.assert_good(part(4, 0, [5, 0, p]))

    def test_open_with_no_entries(self):
        self.assert_bad_facilities(4, 0, 0)
        self.assert_good([4, 1, 0])

    def test_an_id_twice_in_one_line(self):
        self.assert_bad_facilities(*part(4, 0, [5, 1, 1], [5, 0, 0]))
        self.assert_bad_facilities(*part(4, 0, [5, 1, 2], [5, 1, 1]))
        self.assert_bad_facilities(*part(4, 0, [5, 1, 3], [6, 1, 2], [5, 1, 1]))
        self.assert_bad_facilities(*part(4, 1, [7, 1, 4], [5, 1, 3], [6, 1, 2], [5, 0, 1]))
        self.assert_good(part(4, 0, [5, 1, 1], [6, 0, 0]) + part(5, 0, [6, 1, 1], [5, 0, 0]))

    def test_one_that_seized_in_front_of_another(self):
        for way in (0, 1):
            self.assert_bad_facilities(*part(4, 0, [5, 0, 9], [6, way, 0]))
            self.assert_bad_facilities(*part(4, 0, [7, 1, 10], [5, 0, 9], [6, way, 0]))
        self.assert_good(part(4, 0, [7, 1, 10], [5, 1, 9], [6, 0, 0]))

    def test_in_front_of_one_that_preempted(self):
        for p in (-1000, 6, 7):
            self.assert_bad_facilities(*part(4, 0, [5, 1, p], [6, 1, 7]))
            self.assert_bad_facilities(*part(4, 0, [8, 1, 9], [5, 1, p], [6, 1, 7]))
            self.assert_bad_facilities(*part(4, 0, [5, 1, p], [6, 1, 7], [8, 0, 0]))
        for p in (8, 1000):
            self.assert_good(part(4, 0, [5, 1, p], [6, 1, 7]))
            self.assert_good(part(4, 0, [5, 1, p], [6, 1, 7], [8, 0, 0]))

    def test_in_front_of_one_that_seized(self):
        for p in (-1000, 6, 7, 8, 1000):
            self.assert_good(part(4, 0, [5, 1, p], [6, 0, 7]))

    def test_storages_that_do_not_rise(self):
        self.assert_good([], [4, 5, 0, 0, 5, 5, 0, 0])
        self.assert_bad([], [4, 5, 0, 0, 4, 5, 0, 0])
        self.assert_bad([], [5, 5, 0, 0, 4, 5, 0, 0])
        self.assert_bad([], [0, 5, 0, 0, 0, 5, 0, 0])
        self.assert_bad([], [1, 5, 0, 0, 2, 5, 0, 0, 1, 5, 0, 0])

    def test_storages_out_of_range(self):
        for s in (-1, 64, FAR, -FAR):
            self.assert_bad_storages(s, 5, 0, 0)
        for s in (0, 63):
            self.assert_good([], [s, 5, 0, 0])

    def test_rooms(self):
        for n in (-1, MOST_ID + 1, FAR, -FAR):
            for shut in (0, 1):
                self.assert_bad_storages(4, n, 0, shut)
        self.assert_good([], [3, 0, 0, 1, 4, MOST_ID, 0, 0])

    def test_used_units(self):
        for used in (-1, 6, FAR, -FAR):
            for shut in (0, 1):
                self.assert_bad_storages(4, 5, used, shut)
        self.assert_bad_storages(4, 0, 1, 1)
        self.assert_bad_storages(4, MOST_ID, MOST_ID + 1, 0)
        for used in (0, 5):
            self.assert_good([], [4, 5, used, 0])

    def test_open_with_room_0(self):
        self.assert_bad_storages(4, 0, 0, 0)
        self.assert_good([], [4, 0, 0, 1])

    def test_as_many_numbers_as_may_be(self):
        self.assert_bad([FAR] * 4100)
        self.assert_bad([0] * 4100)
        self.assert_bad([], [1] * 4100)


class FullLine(Checks, unittest.TestCase):
    def setUp(self):
        self.entries = [[1002 - at, 1, 999 - at] for at in range(1000)] + [[1, 0, 500]]
        self.full = [load(part(63, 0, *self.entries))]

    def test_1001_entries_are_let_and_1002_are_not(self):
        self.assertEqual(run(*self.full, holder(63)), [[0, 0], [0, 1001] + joined(self.entries)])
        self.assertEqual(last(*self.full, counts()), [1, 1000, 0, 0])
        self.assertEqual(last(*self.full, halted())[:5], [1000, 1, 1, 3, 1])
        self.assert_changes_nothing([-2], [], load(part(63, 0, [2000, 1, 1000], *self.entries)))

    def test_preempt_that_keeps_is_refused(self):
        self.assert_changes_nothing([-5], self.full, preempt(63, 2000, 1000, 1, 1))
        self.assert_changes_nothing([1], self.full, preempt(63, 2000, 999, 1, 1))
        self.assert_changes_nothing([-4], self.full, preempt(63, 1, 1000, 1, 1))

    def test_preempt_that_does_not_keep_is_done(self):
        calls = self.full + [preempt(63, 2000, 1000, 1, 0)]
        self.assertEqual(run(*calls, holder(63))[1:],
                         [[0, 1, 2, 1002], [0, 1001, 2000, 1, 1000] + joined(self.entries[1:])])


class Clear(unittest.TestCase):
    def test_the_bank_is_new(self):
        for setup in ([], OTHER, TANGLE, [gate(f, 1) for f in EVERY]):
            self.assertEqual(run(*setup, clear(), told())[-2:], [[0, 0], [0, 0]])
            self.assertEqual(state_after(*setup, clear()), ({}, {}))

    def test_calls_go_on_from_a_new_bank(self):
        self.assertEqual(run(*OTHER, clear(), seize(0, 9), gate(5, 0), enter(3, 1), room(3, 0), idle())[len(OTHER):],
                         [[0, 0], [0, 0], [0, 0], [-8], [0, 0], [63] + EVERY[1:]])

    def test_a_call_of_another_form_clears_nothing(self):
        for tried in (call(20, [0]), call(20, [], [[]])):
            self.assertEqual(run(*OTHER, tried, told())[-2:], [[-9], last(*OTHER, told())])


if __name__ == "__main__":
    unittest.main()
