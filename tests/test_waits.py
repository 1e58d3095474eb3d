"""dead, ring and inherit."""

import unittest

from tests.support import (
    FAR, MOST_ID, Checks, all_of, call, dead, gate, inherit, joined, last, load, part, place, preempt, release, ring,
    run, seize, together,
)

EVERY = list(range(64))

# By id: facility 0 is held by 1, 1 by 2, and so on.
HELD = [together(*[[0, f, f + 1, 0] for f in EVERY])]

WISHING = {21: 2, 22: 2, 23: 3}


def dead_and_ring(*calls):
    """What dead and ring answer; the last of the calls is a list of wishes."""
    *setup, wishes = calls
    answers = run(*setup, dead(*wishes), ring(*wishes))
    return answers[-2:]


class ListForm(Checks, unittest.TestCase):
    SETUP = [seize(3, 5, 1), preempt(3, 6, 2), seize(4, 7)]

    def assert_bad(self, number, wishes):
        for setup in ([], self.SETUP):
            self.assert_changes_nothing([-2], setup, call(number, [], [wishes]))

    def test_empty(self):
        self.assertEqual(run(dead(), ring(), inherit()), [[0], [0], [0]])
        self.assertEqual(run(*self.SETUP, dead(), ring(), inherit())[3:], [[0], [0], [3, 5, 1, 6, 2, 7, 0]])

    def test_no_whole_pairs_or_triples(self):
        for number, width in WISHING.items():
            for length in range(1, 14):
                row = joined([[x, 0, 0][:width] for x in range(1, 9)])[:length]
                if length % width:
                    self.assert_bad(number, row)
                else:
                    self.assertNotEqual(last(call(number, [], [row])), [-2])

    def test_ids(self):
        for number, width in WISHING.items():
            for x in (0, -1, MOST_ID + 1, FAR, -FAR):
                self.assert_bad(number, [x, 3, 0][:width])
                self.assert_bad(number, [8, 3, 0][:width] + [x, 3, 0][:width])
            for x in (1, MOST_ID):
                self.assertNotEqual(last(call(number, [], [[x, 3, 0][:width]])), [-2])

    def test_facilities(self):
        for number, width in WISHING.items():
            for f in (-1, 64, FAR, -FAR):
                self.assert_bad(number, [8, f, 0][:width])
                self.assert_bad(number, [8, f, 0][:width] + [9, 3, 0][:width])
            for f in (0, 63):
                self.assertNotEqual(last(call(number, [], [[8, f, 0][:width]])), [-2])

    def test_priorities(self):
        for p in (-1001, 1001, FAR, -FAR):
            self.assert_bad(23, [8, 3, p])
            self.assert_bad(23, [8, 3, 0, 9, 3, p])
        self.assertEqual(last(inherit([8, 3, -1000], [9, 3, 1000])), [2, 8, -1000, 9, 1000])

    def test_an_id_with_two_wishes(self):
        for number, width in WISHING.items():
            self.assert_bad(number, [8, 3, 0][:width] * 2)
            self.assert_bad(number, [8, 3, 0][:width] + [8, 4, 1][:width])
            self.assert_bad(number, [8, 3, 0][:width] + [9, 3, 0][:width] + [8, 5, 0][:width])

    def test_1000_wishes_and_1001(self):
        for number, width in WISHING.items():
            wishes = joined([[x, x % 64, 0][:width] for x in range(1, 1002)])
            self.assert_bad(number, wishes)
            self.assertNotEqual(last(*self.SETUP, call(number, [], [wishes[:-width]])), [-2])

    def test_questions_change_nothing(self):
        for number, width in WISHING.items():
            tried = call(number, [], [joined([[5, 4, 9][:width], [7, 3, 9][:width], [8, 0, 9][:width]])])
            self.assert_changes_nothing(last(*self.SETUP, tried), self.SETUP, tried)

    def test_a_wish_is_not_kept(self):
        self.assertEqual(run(seize(3, 5), dead([5, 3]), ring([5, 3]), inherit([6, 3, 9]), dead(), ring(), inherit(),
                             place(6))[4:], [[0], [0], [1, 5, 0], [0, 0]])


class DeadAndRing(unittest.TestCase):
    def test_who_wishes_what_it_holds(self):
        self.assertEqual(dead_and_ring(seize(3, 5), [[5, 3]]), [[1, 5], [1, 5]])
        self.assertEqual(dead_and_ring(preempt(3, 5), gate(3, 1), [[5, 3]]), [[1, 5], [1, 5]])

    def test_who_wishes_a_facility_without_a_holder(self):
        self.assertEqual(dead_and_ring([[5, 3]]), [[0], [0]])
        self.assertEqual(dead_and_ring(gate(3, 1), seize(4, 5), [[5, 3]]), [[0], [0]])
        self.assertEqual(dead_and_ring(seize(3, 5), release(3, 5), [[5, 3]]), [[0], [0]])

    def test_who_stands_nowhere(self):
        self.assertEqual(dead_and_ring(seize(3, 6), [[5, 3]]), [[0], [0]])
        self.assertEqual(dead_and_ring(seize(3, 6), [[5, 3], [6, 3]]), [[2, 5, 6], [1, 6]])

    def test_two_by_wishes(self):
        setup = [seize(3, 5), seize(4, 6)]
        self.assertEqual(dead_and_ring(*setup, [[5, 4], [6, 3]]), [[2, 5, 6], [2, 5, 6]])
        self.assertEqual(dead_and_ring(*setup, [[6, 3], [5, 4]]), [[2, 5, 6], [2, 5, 6]])
        self.assertEqual(dead_and_ring(*setup, [[5, 4]]), [[0], [0]])
        self.assertEqual(dead_and_ring(*setup, [[6, 3]]), [[0], [0]])

    def test_two_by_being_displaced(self):
        calls = [seize(3, 5), preempt(3, 6), seize(4, 6), preempt(4, 5)]
        self.assertEqual(dead_and_ring(*calls, []), [[2, 5, 6], [2, 5, 6]])

    def test_one_by_a_wish_and_one_by_being_displaced(self):
        self.assertEqual(dead_and_ring(seize(3, 5), preempt(3, 6), seize(4, 5), [[6, 4]]), [[2, 5, 6], [2, 5, 6]])
        self.assertEqual(dead_and_ring(seize(3, 5), preempt(3, 6), seize(4, 5), []), [[0], [0]])

    def test_who_is_displaced_at_the_facility_that_it_wishes(self):
        calls = [seize(3, 5), preempt(3, 6)]
        self.assertEqual(dead_and_ring(*calls, [[5, 3]]), [[0], [0]])
        self.assertEqual(dead_and_ring(*calls, [[5, 3], [6, 3]]), [[2, 5, 6], [1, 6]])

    def test_the_displaced_wait_on_the_holder_alone(self):
        # 7 holds 3, in front of 6 and 5; 5 doesn't wait on 6 nor 6 on 5.
        calls = [seize(3, 5), preempt(3, 6, 1), preempt(3, 7, 2, 1), seize(4, 5), seize(8, 6)]
        self.assertEqual(dead_and_ring(*calls, [[6, 4]]), [[0], [0]])
        self.assertEqual(dead_and_ring(*calls, [[5, 8]]), [[0], [0]])
        self.assertEqual(dead_and_ring(*calls, [[7, 4]]), [[3, 5, 6, 7], [2, 5, 7]])
        self.assertEqual(dead_and_ring(*calls, [[7, 8]]), [[3, 5, 6, 7], [2, 7, 6]])

    def test_a_shut_facility_is_waited_on_too(self):
        calls = [seize(3, 5), seize(4, 6), gate(3, 1), gate(4, 1)]
        self.assertEqual(dead_and_ring(*calls, [[5, 4], [6, 3]]), [[2, 5, 6], [2, 5, 6]])

    def test_ids_that_wait_on_a_ring_without_being_on_it(self):
        # 5 and 9 wait on one another; 6 and 70 wait on 5, 4 on 9; 8 and 71 wait on ones that don't wait.
        wishes = [[9, 4], [5, 8], [8, 6], [6, 4], [70, 4], [71, 63]]
        self.assertEqual(dead_and_ring(*HELD, wishes), [[4, 5, 6, 9, 70], [2, 5, 9]])
        self.assertEqual(dead_and_ring(*HELD, wishes + [[4, 8]]), [[5, 4, 5, 6, 9, 70], [2, 9, 5]])
        # On one that waits on the ring.
        self.assertEqual(dead_and_ring(*HELD, wishes + [[4, 8], [1, 3], [80, 0]]),
                         [[7, 1, 4, 5, 6, 9, 70, 80], [2, 9, 5]])

    def test_two_rings(self):
        first, second = [[10, 19], [20, 9]], [[5, 5], [6, 6], [7, 4]]
        self.assertEqual(dead_and_ring(*HELD, first + second), [[5, 5, 6, 7, 10, 20], [3, 5, 6, 7]])
        self.assertEqual(dead_and_ring(*HELD, second + first), [[5, 5, 6, 7, 10, 20], [3, 5, 6, 7]])
        self.assertEqual(dead_and_ring(*HELD, first + second + [[1, 19]]), [[6, 1, 5, 6, 7, 10, 20], [2, 20, 10]])

    def test_the_ring_begins_with_the_id_that_comes_for_the_second_time(self):
        # 1 -> 9 -> 7 -> 8 -> 9
        self.assertEqual(dead_and_ring(*HELD, [[1, 8], [9, 6], [7, 7], [8, 8]]), [[4, 1, 7, 8, 9], [3, 9, 7, 8]])
        # 1 -> 2 -> 3 -> 3
        self.assertEqual(dead_and_ring(*HELD, [[1, 1], [2, 2], [3, 2]]), [[3, 1, 2, 3], [1, 3]])

    def test_who_waits_on_several(self):
        # 50 is displaced by 10 at 0, by 20 at 1 and by 30 at 2.
        setup = [all_of(50, 0, [0, 1, 2]), preempt(0, 10), preempt(1, 20), preempt(2, 30), seize(3, 50), seize(4, 10)]
        self.assertEqual(dead_and_ring(*setup, []), [[0], [0]])
        # One of several is enough to be dead, and the ring passes over those that aren't.
        self.assertEqual(dead_and_ring(*setup, [[20, 3]]), [[2, 20, 50], [2, 20, 50]])
        self.assertEqual(dead_and_ring(*setup, [[30, 3]]), [[2, 30, 50], [2, 30, 50]])
        self.assertEqual(dead_and_ring(*setup, [[30, 3], [20, 3]]), [[3, 20, 30, 50], [2, 20, 50]])
        self.assertEqual(dead_and_ring(*setup, [[30, 3], [20, 4]]), [[2, 30, 50], [2, 30, 50]])
        self.assertEqual(dead_and_ring(*setup, [[30, 3], [10, 4]]), [[3, 10, 30, 50], [1, 10]])
        self.assertEqual(dead_and_ring(*setup, [[30, 3], [20, 3], [50, 3]]), [[3, 20, 30, 50], [2, 20, 50]])
        self.assertEqual(dead_and_ring(*setup, [[50, 3]]), [[1, 50], [1, 50]])

    def test_waiting_on_one_for_several_reasons(self):
        # 5 waits on 6 at 0, at 1 and by its wish: once 6 is alive, so is 5.
        setup = [all_of(5, 0, [0, 1]), preempt(0, 6), preempt(1, 6), seize(2, 6)]
        self.assertEqual(dead_and_ring(*setup, [[5, 2]]), [[0], [0]])
        self.assertEqual(dead_and_ring(*setup, [[5, 2], [6, 2]]), [[2, 5, 6], [1, 6]])

    def test_from_the_least_of_the_dead(self):
        # 2 is dead and waits on 40 and on 3: the least it waits on is gone to.
        setup = [all_of(2, 0, [0, 1]), preempt(0, 40), preempt(1, 3), seize(5, 2), seize(6, 1)]
        self.assertEqual(dead_and_ring(*setup, [[40, 5], [3, 5]]), [[3, 2, 3, 40], [2, 2, 3]])
        self.assertEqual(dead_and_ring(*setup, [[40, 5], [3, 0]]), [[3, 2, 3, 40], [3, 2, 3, 40]])
        self.assertEqual(dead_and_ring(*setup, [[40, 0], [3, 6]]), [[2, 2, 40], [1, 40]])

    def test_a_ring_of_64(self):
        wishes = [[x, x % 64] for x in range(1, 65)]
        ids = list(range(1, 65))
        self.assertEqual(dead_and_ring(*HELD, wishes), [[64] + ids, [64] + ids])
        # Round the other way.
        wishes = [[x, (x - 2) % 64] for x in range(1, 65)]
        self.assertEqual(dead_and_ring(*HELD, wishes), [[64] + ids, [64, 1] + ids[:0:-1]])

    def test_long_chains(self):
        chain = [[x, x] for x in range(1, 64)]
        ids = list(range(1, 65))
        self.assertEqual(dead_and_ring(*HELD, chain), [[0], [0]])
        self.assertEqual(dead_and_ring(*HELD, chain + [[64, 63]]), [[64] + ids, [1, 64]])
        self.assertEqual(dead_and_ring(*HELD, chain + [[64, 60]]), [[64] + ids, [4, 61, 62, 63, 64]])
        self.assertEqual(dead_and_ring(*HELD, chain[:40] + chain[41:] + [[64, 63]]), [[23] + ids[41:], [1, 64]])

    def test_1000_wishes_on_one_ring(self):
        wishes = [[x, 0] for x in range(1000, 0, -1)]
        self.assertEqual(dead_and_ring(*HELD, wishes), [[1000] + list(range(1, 1001)), [1, 1]])
        self.assertEqual(dead_and_ring(*HELD, wishes[:-1] + [[1, 1]]), [[1000] + list(range(1, 1001)), [2, 1, 2]])
        self.assertEqual(dead_and_ring(*HELD, [[x, 0] for x in range(1001, 1, -1)]), [[0], [0]])

    def test_a_full_line(self):
        full = load(part(9, 0, *[[1002 - at, 1, 999 - at] for at in range(1001)]))
        self.assertEqual(dead_and_ring(full, []), [[0], [0]])
        self.assertEqual(dead_and_ring(full, [[1002, 9]]), [[1001] + list(range(2, 1003)), [1, 1002]])

    def test_the_greatest_ids(self):
        setup = [seize(0, MOST_ID), seize(63, MOST_ID - 1)]
        self.assertEqual(dead_and_ring(*setup, [[MOST_ID, 63], [MOST_ID - 1, 0]]),
                         [[2, MOST_ID - 1, MOST_ID], [2, MOST_ID - 1, MOST_ID]])


class Inherit(unittest.TestCase):
    def test_who_stands_alone(self):
        self.assertEqual(last(seize(3, 5, -7), inherit()), [1, 5, -7])
        self.assertEqual(last(gate(3, 1), inherit()), [0])

    def test_a_wish_for_a_facility_without_a_holder(self):
        self.assertEqual(last(inherit([9, 3, -5], [8, 3, 6])), [2, 8, 6, 9, -5])
        self.assertEqual(last(seize(4, 5, 1), inherit([9, 3, 7])), [2, 5, 1, 9, 7])

    def test_the_greatest_of_ones_own(self):
        setup = [seize(3, 5, -7), seize(4, 5, -3), seize(6, 5, -5)]
        self.assertEqual(last(*setup, inherit()), [1, 5, -3])
        self.assertEqual(last(*setup, inherit([5, 9, -4])), [1, 5, -3])
        self.assertEqual(last(*setup, inherit([5, 9, -2])), [1, 5, -2])
        self.assertEqual(last(*setup, inherit([5, 3, 2])), [1, 5, 2])

    def test_an_entry_of_the_displaced_counts_as_ones_own(self):
        self.assertEqual(last(seize(3, 5, 9), preempt(3, 6, 1), seize(4, 5, 2), inherit()), [2, 5, 9, 6, 9])

    def test_by_a_wish(self):
        setup = [seize(3, 5, 1)]
        self.assertEqual(last(*setup, inherit([6, 3, 8])), [2, 5, 8, 6, 8])
        self.assertEqual(last(*setup, inherit([6, 3, -8])), [2, 5, 1, 6, -8])
        self.assertEqual(last(*setup, inherit([6, 3, 8], [4, 3, 9], [7, 3, -1000])), [4, 4, 9, 5, 9, 6, 8, 7, -1000])

    def test_what_is_inherited_goes_one_way(self):
        # 6 gets nothing of 5's, on whom it waits.
        self.assertEqual(last(seize(3, 5, 1000), inherit([6, 3, 0])), [2, 5, 1000, 6, 0])

    def test_by_being_displaced(self):
        self.assertEqual(last(seize(3, 5, 7), preempt(3, 6, -7), inherit()), [2, 5, 7, 6, 7])
        # The one in the middle gets nothing of the one behind it.
        setup = [seize(3, 5, 7), preempt(3, 6, -7), preempt(3, 8, -6, 1)]
        self.assertEqual(last(*setup, inherit()), [3, 5, 7, 6, -7, 8, 7])

    def test_by_both(self):
        setup = [seize(3, 5, 7), preempt(3, 6, -7), seize(4, 9, -9)]
        self.assertEqual(last(*setup, inherit([5, 4, 8])), [3, 5, 8, 6, 8, 9, 8])
        self.assertEqual(last(*setup, inherit([6, 4, -8])), [3, 5, 7, 6, 7, 9, 7])

    def test_along_a_chain(self):
        setup = [together(*[[0, f, f + 1, -500 - f] for f in EVERY])]
        wishes = [[x, x, -900] for x in range(1, 64)]
        told = [64] + joined([[x, -500] for x in range(1, 65)])
        self.assertEqual(last(*setup, inherit(*wishes)), told)
        # From the end to the beginning, each keeps its own.
        wishes = [[x, x - 2, -900] for x in range(64, 1, -1)]
        self.assertEqual(last(*setup, inherit(*wishes)), [64] + joined([[x, -499 - x] for x in range(1, 65)]))
        wishes.append([100, 31, -400])
        told = [65] + joined([[x, -400 if x <= 32 else -499 - x] for x in range(1, 65)]) + [100, -400]
        self.assertEqual(last(*setup, inherit(*wishes)), told)

    def test_round_a_ring(self):
        setup = [seize(3, 5, -7), seize(4, 6, -9), seize(2, 7, -8), seize(1, 8, -1000)]
        wishes = [[5, 4, -1000], [6, 2, -1000], [7, 3, -1000]]
        self.assertEqual(last(*setup, inherit(*wishes)), [4, 5, -7, 6, -7, 7, -7, 8, -1000])
        # What comes to the ring goes round it, and what waits on it gets nothing.
        self.assertEqual(last(*setup, inherit(*wishes, [9, 2, -2], [8, 3, -999])),
                         [5, 5, -2, 6, -2, 7, -2, 8, -999, 9, -2])

    def test_who_waits_on_itself(self):
        self.assertEqual(last(seize(3, 5, -7), inherit([5, 3, -8])), [1, 5, -7])
        self.assertEqual(last(seize(3, 5, -7), inherit([5, 3, -6], [6, 3, -5])), [2, 5, -5, 6, -5])

    def test_by_several_ways(self):
        # 50 waits on 10 and on 20, both of them on 30.
        setup = [all_of(50, 4, [0, 1]), preempt(0, 10, 1), preempt(1, 20, 9), seize(2, 30, -3)]
        self.assertEqual(last(*setup, inherit([10, 2, 0], [20, 2, 0])), [4, 10, 4, 20, 9, 30, 9, 50, 4])
        self.assertEqual(last(*setup, inherit([10, 2, 0])), [4, 10, 4, 20, 9, 30, 4, 50, 4])

    def test_at_shut_facilities_too(self):
        self.assertEqual(last(seize(3, 5, 1), gate(3, 1), inherit([6, 3, 8])), [2, 5, 8, 6, 8])

    def test_1000_wishes(self):
        wishes = [[x, x % 64, x - 500] for x in range(1000, 0, -1)]
        # The holders are 1 to 64; the greatest wish for facility f is that of the greatest x of this rest.
        greatest = {f: max(x for x in range(1, 1001) if x % 64 == f) - 500 for f in EVERY}
        answer = last(*HELD, inherit(*wishes))
        self.assertEqual(answer[:1] + answer[1::2], [1000] + list(range(1, 1001)))
        # 64 waits on 1, 1 on 2, and so on: a ring of all holders, which get the greatest of all.
        self.assertEqual(answer[2:130:2], [max(greatest.values())] * 64)
        self.assertEqual(answer[130::2], [x - 500 for x in range(65, 1001)])


if __name__ == "__main__":
    unittest.main()
