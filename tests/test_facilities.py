"""seize, preempt, release, back, gate and purge."""

import unittest

from tests.support import (
    Checks, back, gate, last, lines_after, load, part, preempt, purge, release, run, seize, state_after, together,
)


class Seize(Checks, unittest.TestCase):
    def test_new_bank_is_free_everywhere(self):
        calls = [seize(f, 5, 7) for f in range(64)]
        self.assertEqual(run(*calls), [[0, 0]] * 64)
        self.assertEqual(lines_after(*calls), {f: [(5, 0, 7)] for f in range(64)})

    def test_held_by_another_cannot_be_done_now(self):
        self.assert_changes_nothing([1], [seize(3, 5, 7)], seize(3, 6, 1000))

    def test_shut_cannot_be_done_now(self):
        self.assert_changes_nothing([1], [gate(3, 1)], seize(3, 5))

    def test_opened_again_is_done(self):
        self.assertEqual(last(gate(3, 1), gate(3, 0), seize(3, 5)), [0, 0])

    def test_holder_is_refused(self):
        self.assert_changes_nothing([-3], [seize(3, 5)], seize(3, 5))
        self.assert_changes_nothing([-3], [preempt(3, 5)], seize(3, 5))

    def test_displaced_is_refused(self):
        self.assert_changes_nothing([-4], [seize(3, 5), preempt(3, 6)], seize(3, 5))

    def test_last_of_the_displaced_is_refused(self):
        setup = [seize(3, 5), preempt(3, 6, 1), preempt(3, 7, 2, rule=1)]
        self.assert_changes_nothing([-4], setup, seize(3, 5))
        self.assert_changes_nothing([-4], setup, seize(3, 6))

    def test_refusals_come_before_shut(self):
        setup = [seize(3, 5), preempt(3, 6), gate(3, 1)]
        self.assert_changes_nothing([-3], setup, seize(3, 6))
        self.assert_changes_nothing([-4], setup, seize(3, 5))

    def test_standing_elsewhere_does_not_matter(self):
        self.assertEqual(last(seize(3, 5), preempt(3, 6), seize(4, 5)), [0, 0])

    def test_other_facilities_are_left(self):
        self.assertEqual(lines_after(seize(3, 5, -1), seize(2, 5, 4)), {3: [(5, 0, -1)], 2: [(5, 0, 4)]})


class Preempt(Checks, unittest.TestCase):
    def test_empty_line(self):
        for rule in (0, 1):
            for keep in (0, 1):
                calls = [preempt(9, 5, -1000, rule, keep)]
                self.assertEqual(run(*calls), [[0, 0]])
                self.assertEqual(lines_after(*calls), {9: [(5, 1, -1000)]})

    def test_shut_cannot_be_done_now(self):
        self.assert_changes_nothing([1], [gate(9, 1)], preempt(9, 5))
        for rule in (0, 1):
            for keep in (0, 1):
                setup = [seize(9, 5, 0), gate(9, 1)]
                self.assert_changes_nothing([1], setup, preempt(9, 6, 10, rule, keep))

    def test_holder_and_displaced_are_refused_shut_or_open(self):
        for setup in ([], [gate(9, 1)]):
            setup = [seize(9, 5), preempt(9, 6)] + setup
            for rule in (0, 1):
                for keep in (0, 1):
                    self.assert_changes_nothing([-3], setup, preempt(9, 6, 1000, rule, keep))
                    self.assert_changes_nothing([-4], setup, preempt(9, 5, 1000, rule, keep))

    def test_rule_0_any_priority_displaces_one_that_seized(self):
        for p in (-1000, 7, 1000):
            calls = [seize(9, 5, 7), preempt(9, 6, p, rule=0, keep=1)]
            self.assertEqual(last(*calls), [0, 1, 0, 5])
            self.assertEqual(lines_after(*calls), {9: [(6, 1, p), (5, 0, 7)]})

    def test_rule_0_one_that_preempted_stays(self):
        for keep in (0, 1):
            self.assert_changes_nothing([1], [preempt(9, 5, -1000)], preempt(9, 6, 1000, 0, keep))

    def test_rule_1_lower_priority_gives_way_in_either_way(self):
        for taken, way in ((seize(9, 5, 7), 0), (preempt(9, 5, 7), 1)):
            calls = [taken, preempt(9, 6, 8, rule=1, keep=1)]
            self.assertEqual(last(*calls), [0, 1, 0, 5])
            self.assertEqual(lines_after(*calls), {9: [(6, 1, 8), (5, way, 7)]})

    def test_rule_1_equal_or_higher_priority_stays_in_either_way(self):
        for taken in (seize(9, 5, 7), preempt(9, 5, 7)):
            for p in (7, 6, -1000):
                for keep in (0, 1):
                    self.assert_changes_nothing([1], [taken], preempt(9, 6, p, 1, keep))

    def test_keep_0_sends_off(self):
        for taken in (seize(9, 5, 7), preempt(9, 5, 7)):
            calls = [taken, preempt(9, 6, 8, rule=1, keep=0)]
            self.assertEqual(last(*calls), [0, 1, 2, 5])
            self.assertEqual(lines_after(*calls), {9: [(6, 1, 8)]})
        calls = [seize(9, 5, 7), preempt(9, 6, -9, rule=0, keep=0)]
        self.assertEqual(last(*calls), [0, 1, 2, 5])
        self.assertEqual(lines_after(*calls), {9: [(6, 1, -9)]})

    def test_keep_0_leaves_those_displaced_before(self):
        calls = [seize(9, 5, 7), preempt(9, 6, 1), preempt(9, 7, 2, 1, 1), preempt(9, 8, 3, 1, 0)]
        self.assertEqual(run(*calls), [[0, 0], [0, 1, 0, 5], [0, 1, 0, 6], [0, 1, 2, 7]])
        self.assertEqual(lines_after(*calls), {9: [(8, 1, 3), (6, 1, 1), (5, 0, 7)]})

    def test_sent_off_may_come_again(self):
        calls = [seize(9, 5, 7), preempt(9, 6, 1, 0, 0), preempt(9, 5, 2, 1, 1)]
        self.assertEqual(last(*calls), [0, 1, 0, 6])

    def test_displaced_last_stands_first_among_the_displaced(self):
        calls = [seize(9, 5, 0)] + [preempt(9, 5 + p, p, 1, 1) for p in range(1, 5)]
        self.assertEqual(run(*calls)[1:], [[0, 1, 0, 4 + p] for p in range(1, 5)])
        self.assertEqual(lines_after(*calls), {9: [(9, 1, 4), (8, 1, 3), (7, 1, 2), (6, 1, 1), (5, 0, 0)]})


class PreemptFullLine(Checks, unittest.TestCase):
    def setUp(self):
        # The ids are 1 to 1001, so that 1000 of them are displaced in the end.
        self.almost = [load(part(63, 0, *[[p + 501, 1, p] for p in range(499, -501, -1)]))]
        self.full = self.almost + [preempt(63, 1001, 500, 1, 1)]

    def test_the_thousandth_is_let_and_the_next_is_not(self):
        self.assertEqual(len(lines_after(*self.almost)[63]), 1000)
        self.assertEqual(run(*self.full), [[0, 0], [0, 1, 0, 1000]])
        self.assertEqual(len(lines_after(*self.full)[63]), 1001)
        self.assert_changes_nothing([-5], self.full, preempt(63, 2000, 501, 1, 1))

    def test_what_is_told_before_comes_before(self):
        self.assert_changes_nothing([-3], self.full, preempt(63, 1001, 501, 1, 1))
        self.assert_changes_nothing([-4], self.full, preempt(63, 1, 501, 1, 1))
        self.assert_changes_nothing([1], self.full, preempt(63, 2000, 500, 1, 1))
        self.assert_changes_nothing([1], self.full, preempt(63, 2000, 501, 0, 1))
        self.assert_changes_nothing([1], self.full + [gate(63, 1)], preempt(63, 2000, 501, 1, 1))

    def test_keep_0_is_done_at_a_full_line(self):
        calls = self.full + [preempt(63, 2000, 501, 1, 0)]
        self.assertEqual(last(*calls), [0, 1, 2, 1001])
        line = lines_after(*calls)[63]
        self.assertEqual((len(line), line[0], line[1]), (1001, (2000, 1, 501), (1000, 1, 499)))

    def test_room_is_there_again_behind_a_back(self):
        self.assertEqual(last(*self.full, back(63, 1001), preempt(63, 2000, 501, 1, 1)), [0, 1, 0, 1000])

    def test_other_facilities_are_not_full(self):
        self.assertEqual(last(*self.full, seize(62, 1), preempt(62, 2)), [0, 1, 0, 1])

    def test_in_a_row_of_together(self):
        self.assert_changes_nothing([2, 1, -5], self.full, together([4, 1, 1], [1, 63, 2000, 501, 1, 1]))


class ReleaseAndBack(Checks, unittest.TestCase):
    def test_alone_on_the_line(self):
        self.assertEqual(run(seize(4, 5), release(4, 5)), [[0, 0], [0, 0]])
        self.assertEqual(run(preempt(4, 5), back(4, 5)), [[0, 0], [0, 0]])
        self.assertEqual(state_after(seize(4, 5), release(4, 5)), ({}, {}))
        self.assertEqual(state_after(preempt(4, 5), back(4, 5)), ({}, {}))

    def test_who_does_not_hold_is_refused(self):
        for give in (release, back):
            self.assert_changes_nothing([-6], [], give(4, 5))
            self.assert_changes_nothing([-6], [seize(4, 6)], give(4, 5))
            self.assert_changes_nothing([-6], [preempt(4, 6)], give(4, 5))
            self.assert_changes_nothing([-6], [seize(3, 5), preempt(5, 5)], give(4, 5))

    def test_the_displaced_are_refused(self):
        for give in (release, back):
            self.assert_changes_nothing([-6], [seize(4, 5), preempt(4, 6)], give(4, 5))
            self.assert_changes_nothing([-6], [preempt(4, 5, 0), preempt(4, 6, 1, 1)], give(4, 5))

    def test_the_other_way_is_refused(self):
        for setup in ([], [gate(4, 1)]):
            self.assert_changes_nothing([-7], [preempt(4, 5)] + setup, release(4, 5))
            self.assert_changes_nothing([-7], [seize(4, 5)] + setup, back(4, 5))

    def test_the_displaced_hold_again_one_by_one(self):
        calls = [seize(4, 5, 0), preempt(4, 6, 1, 1), preempt(4, 7, 2, 1)]
        calls += [back(4, 7), back(4, 6), release(4, 5), release(4, 5)]
        self.assertEqual(run(*calls)[3:], [[0, 1, 1, 6], [0, 1, 1, 5], [0, 0], [-6]])
        self.assertEqual(lines_after(*calls[:4]), {4: [(6, 1, 1), (5, 0, 0)]})
        self.assertEqual(lines_after(*calls[:5]), {4: [(5, 0, 0)]})

    def test_at_a_shut_facility(self):
        self.assertEqual(last(seize(4, 5), gate(4, 1), release(4, 5)), [0, 0])
        calls = [seize(4, 5), preempt(4, 6, 9), gate(4, 1), back(4, 6)]
        self.assertEqual(last(*calls), [0, 1, 1, 5])
        self.assertEqual(state_after(*calls), ({4: (1, [(5, 0, 0)])}, {}))
        self.assertEqual(last(*calls, release(4, 5)), [0, 0])
        self.assertEqual(state_after(*calls, release(4, 5)), ({4: (1, [])}, {}))

    def test_freed_keeps_way_and_priority(self):
        calls = [preempt(4, 5, -3), preempt(4, 6, -2, 1), back(4, 6)]
        self.assertEqual(lines_after(*calls), {4: [(5, 1, -3)]})
        self.assert_changes_nothing([-7], calls, release(4, 5))

    def test_only_the_facility_named(self):
        calls = [seize(4, 5), seize(5, 5), release(4, 5)]
        self.assertEqual(lines_after(*calls), {5: [(5, 0, 0)]})


class Gate(unittest.TestCase):
    def test_shut_and_open_whatever_it_was(self):
        calls = [gate(0, 0), gate(0, 1), gate(0, 1), gate(0, 0), gate(0, 0)]
        self.assertEqual(run(*calls), [[0, 0]] * 5)
        self.assertEqual(state_after(*calls[:2]), ({0: (1, [])}, {}))
        self.assertEqual(state_after(*calls[:3]), ({0: (1, [])}, {}))
        self.assertEqual(state_after(*calls[:4]), ({}, {}))

    def test_the_line_stays(self):
        calls = [seize(63, 5), preempt(63, 6), gate(63, 1)]
        self.assertEqual(state_after(*calls), ({63: (1, [(6, 1, 0), (5, 0, 0)])}, {}))
        calls.append(gate(63, 0))
        self.assertEqual(state_after(*calls), ({63: (0, [(6, 1, 0), (5, 0, 0)])}, {}))

    def test_other_facilities_stay_open(self):
        self.assertEqual(last(gate(1, 1), seize(2, 5)), [0, 0])


class Purge(Checks, unittest.TestCase):
    def test_who_stands_nowhere_is_refused(self):
        self.assert_changes_nothing([-10], [], purge(5))
        self.assert_changes_nothing([-10], [seize(1, 6), preempt(1, 7)], purge(5))
        self.assert_changes_nothing([-10], [seize(1, 5), release(1, 5)], purge(5))

    def test_sole_holder(self):
        self.assertEqual(last(seize(1, 5), purge(5)), [0, 0])
        self.assertEqual(state_after(seize(1, 5), purge(5)), ({}, {}))
        self.assertEqual(last(preempt(1, 5), purge(5)), [0, 0])

    def test_displaced_only_has_no_effects(self):
        calls = [seize(1, 5), preempt(1, 6, 1), preempt(1, 7, 2, 1), purge(6)]
        self.assertEqual(last(*calls), [0, 0])
        self.assertEqual(lines_after(*calls), {1: [(7, 1, 2), (5, 0, 0)]})

    def test_holds_some_and_is_displaced_at_others(self):
        setup = [
            seize(40, 1), preempt(40, 5, 3), preempt(40, 6, 4, 1),
            seize(30, 2), preempt(30, 5),
            seize(20, 5),
            seize(10, 3), preempt(10, 5),
            seize(2, 5), preempt(2, 4),
            seize(0, 9, 8), preempt(0, 5, 9, 1), gate(0, 1),
            seize(63, 8),
        ]
        self.assertEqual(last(*setup, purge(5)), [0, 3, 1, 9, 1, 3, 1, 2])
        self.assertEqual(state_after(*setup, purge(5)), ({
            0: (1, [(9, 0, 8)]),
            2: (0, [(4, 1, 0)]),
            10: (0, [(3, 0, 0)]),
            30: (0, [(2, 0, 0)]),
            40: (0, [(6, 1, 4), (1, 0, 0)]),
            63: (0, [(8, 0, 0)]),
        }, {}))
        self.assert_changes_nothing([-10], setup + [purge(5)], purge(5))

    def test_one_that_is_freed_at_several(self):
        calls = [seize(7, 1), seize(6, 1), preempt(7, 2), preempt(6, 2), purge(2)]
        self.assertEqual(last(*calls), [0, 2, 1, 1, 1, 1])

    def test_at_all_facilities(self):
        calls = [seize(f, 100 + f) for f in range(64)] + [preempt(f, 5) for f in range(64)] + [purge(5)]
        self.assertEqual(last(*calls), [0, 64] + [n for f in range(64) for n in (1, 100 + f)])


if __name__ == "__main__":
    unittest.main()
