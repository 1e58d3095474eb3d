"""holder, place, halted, storage, told, idle and counts."""

import unittest

from tests.support import (
    MOST_ID, Checks, all_of, back, clear, close, counts, dry, enter, gate, halted, holder, idle, joined, last, leave,
    place, preempt, purge, release, room, run, seize, storage, together, told,
)

EVERY = list(range(64))

# 5 holds 50 and 7, and is displaced at 40, 30 and 2; 30 and 50 are shut, 9 is shut and empty.
TANGLE = [
    seize(50, 5, 1), gate(50, 1),
    seize(40, 5, 2), preempt(40, 6, 0),
    seize(30, 4, -3), preempt(30, 5, -2, 1), preempt(30, 8, -1, 1), gate(30, 1),
    preempt(7, 5, 9),
    preempt(2, 5, 3), preempt(2, 4, 4, 1),
    gate(9, 1),
    room(3, 10), enter(3, 4), room(1, 7), close(1, 1), close(60, 1), room(62, 0),
]

QUESTIONS = [holder(30), holder(9), place(5), place(77), halted(), storage(3), told(), idle(), counts()]


class Holder(unittest.TestCase):
    def test_new_bank(self):
        self.assertEqual(run(*[holder(f) for f in EVERY]), [[0, 0]] * 64)

    def test_empty_line_shut_and_open_again(self):
        self.assertEqual(run(gate(4, 1), holder(4), gate(4, 0), holder(4), holder(3))[1:],
                         [[1, 0], [0, 0], [0, 0], [0, 0]])

    def test_a_holder_in_each_way(self):
        self.assertEqual(last(seize(63, MOST_ID, -1000), holder(63)), [0, 1, MOST_ID, 0, -1000])
        self.assertEqual(last(preempt(0, 1, 1000), holder(0)), [0, 1, 1, 1, 1000])

    def test_the_line_in_its_order(self):
        calls = [seize(4, 7, 9), preempt(4, 6, 1), preempt(4, 5, 2, 1), preempt(4, 8, 3, 1)]
        self.assertEqual(last(*calls, holder(4)), [0, 4, 8, 1, 3, 5, 1, 2, 6, 1, 1, 7, 0, 9])
        self.assertEqual(last(*calls, back(4, 8), holder(4)), [0, 3, 5, 1, 2, 6, 1, 1, 7, 0, 9])
        self.assertEqual(last(*calls, purge(6), holder(4)), [0, 3, 8, 1, 3, 5, 1, 2, 7, 0, 9])
        self.assertEqual(last(*calls, preempt(4, 9, 4, 1, 0), holder(4)), [0, 4, 9, 1, 4, 5, 1, 2, 6, 1, 1, 7, 0, 9])

    def test_a_line_at_a_shut_facility(self):
        self.assertEqual(run(*TANGLE, holder(30), holder(50))[-2:], [[1, 3, 8, 1, -1, 5, 1, -2, 4, 0, -3],
                                                                     [1, 1, 5, 0, 1]])


class Place(unittest.TestCase):
    def test_stands_nowhere(self):
        self.assertEqual(run(place(1), place(MOST_ID)), [[0, 0], [0, 0]])
        self.assertEqual(last(*TANGLE, place(77)), [0, 0])

    def test_holds_some_and_is_displaced_at_others(self):
        self.assertEqual(last(*TANGLE, place(5)), [2, 7, 50, 3, 2, 30, 40])
        self.assertEqual(last(*TANGLE, place(4)), [1, 2, 1, 30])
        self.assertEqual(last(*TANGLE, place(6)), [1, 40, 0])
        self.assertEqual(last(*TANGLE, place(8)), [1, 30, 0])

    def test_holds_all(self):
        self.assertEqual(last(all_of(5, 0, EVERY[::-1]), place(5)), [64] + EVERY + [0])

    def test_is_displaced_at_all(self):
        calls = [all_of(MOST_ID, 0, EVERY)] + [preempt(f, 6) for f in EVERY[::-1]]
        self.assertEqual(last(*calls, place(MOST_ID)), [0, 64] + EVERY)
        self.assertEqual(last(*calls, place(6)), [64] + EVERY + [0])

    def test_several_displaced_in_one_line(self):
        calls = [seize(4, 7), preempt(4, 6, 1), preempt(4, 5, 2, 1)]
        self.assertEqual(run(*calls, place(5), place(6), place(7))[3:], [[1, 4, 0], [0, 1, 4], [0, 1, 4]])
        calls.append(back(4, 5))
        self.assertEqual(run(*calls, place(5), place(6), place(7))[4:], [[0, 0], [1, 4, 0], [0, 1, 4]])

    def test_sent_off_and_purged_stand_nowhere(self):
        self.assertEqual(last(seize(4, 7), preempt(4, 6, 1, 0, 0), place(7)), [0, 0])
        self.assertEqual(last(*TANGLE, purge(5), place(5)), [0, 0])


class Halted(unittest.TestCase):
    def test_nobody(self):
        self.assertEqual(last(halted()), [0])
        self.assertEqual(last(seize(1, 5), preempt(2, 6), gate(3, 1), halted()), [0])

    def test_rising_with_the_number_of_facilities(self):
        self.assertEqual(last(*TANGLE, halted()), [2, 4, 1, 5, 3])

    def test_several_in_one_line(self):
        calls = [seize(4, MOST_ID), preempt(4, 1, 1), preempt(4, 50, 2, 1), preempt(4, 2, 3, 1)]
        self.assertEqual(last(*calls, halted()), [3, 1, 1, 50, 1, MOST_ID, 1])

    def test_one_at_every_facility(self):
        calls = [all_of(5, 0, EVERY)] + [preempt(f, 6) for f in EVERY]
        self.assertEqual(last(*calls, halted()), [1, 5, 64])

    def test_freed_and_sent_off_are_not_halted(self):
        self.assertEqual(last(seize(4, 7), preempt(4, 6), back(4, 6), halted()), [0])
        self.assertEqual(last(seize(4, 7), preempt(4, 6, 0, 0, 0), halted()), [0])
        self.assertEqual(last(seize(4, 7), preempt(4, 6), purge(7), halted()), [0])


class Storage(unittest.TestCase):
    def test_new_bank(self):
        self.assertEqual(run(*[storage(s) for s in EVERY]), [[0, 0, 0]] * 64)

    def test_room_used_and_shut(self):
        calls = [room(63, MOST_ID), enter(63, MOST_ID), close(63, 1)]
        self.assertEqual(run(calls[0], storage(63), calls[1], storage(63), calls[2], storage(63))[1::2],
                         [[MOST_ID, 0, 0], [MOST_ID, MOST_ID, 0], [MOST_ID, MOST_ID, 1]])
        self.assertEqual(run(*calls, leave(63, 1), storage(63), close(63, 0), storage(63), storage(62))[4::2],
                         [[MOST_ID, MOST_ID - 1, 1], [MOST_ID, MOST_ID - 1, 0]])

    def test_others_are_not_told(self):
        self.assertEqual(run(*TANGLE, storage(3), storage(1), storage(60), storage(62), storage(0))[-5:],
                         [[10, 4, 0], [7, 0, 1], [0, 0, 1], [0, 0, 0], [0, 0, 0]])

    def test_gate_and_close_are_not_mixed(self):
        self.assertEqual(run(gate(4, 1), storage(4), holder(4), clear(), close(4, 1), storage(4), holder(4)),
                         [[0, 0], [0, 0, 0], [1, 0], [0, 0], [0, 0], [0, 0, 1], [0, 0]])


class Told(unittest.TestCase):
    def test_new_bank(self):
        self.assertEqual(last(told()), [0, 0])

    def test_as_in_a_new_bank_again(self):
        calls = [seize(4, 5), gate(4, 1), release(4, 5), gate(4, 0), room(4, 5), enter(4, 5), close(4, 1), leave(4, 5),
                 room(4, 0), close(4, 0)]
        self.assertEqual(last(*calls, told()), [0, 0])

    def test_shut_with_an_empty_line(self):
        self.assertEqual(last(gate(63, 1), gate(0, 1), told()), [6, 0, 1, 0, 63, 1, 0, 0])

    def test_open_with_entries(self):
        self.assertEqual(last(seize(9, 5, -7), told()), [6, 9, 0, 1, 5, 0, -7, 0])
        self.assertEqual(last(seize(9, 5, -7), preempt(9, 6, -8), told()), [9, 9, 0, 2, 6, 1, -8, 5, 0, -7, 0])

    def test_storages(self):
        self.assertEqual(last(close(9, 1), told()), [0, 4, 9, 0, 0, 1])
        self.assertEqual(last(room(9, 3), told()), [0, 4, 9, 3, 0, 0])
        self.assertEqual(last(room(9, 3), enter(9, 2), close(0, 1), told()), [0, 8, 0, 0, 0, 1, 9, 3, 2, 0])
        self.assertEqual(last(room(9, 0), told()), [0, 0])
        self.assertEqual(last(close(9, 1), close(9, 0), told()), [0, 0])

    def test_a_tangle(self):
        facilities = [
            2, 0, 2, 4, 1, 4, 5, 1, 3,
            7, 0, 1, 5, 1, 9,
            9, 1, 0,
            30, 1, 3, 8, 1, -1, 5, 1, -2, 4, 0, -3,
            40, 0, 2, 6, 1, 0, 5, 0, 2,
            50, 1, 1, 5, 0, 1,
        ]
        storages = [1, 7, 0, 1, 3, 10, 4, 0, 60, 0, 0, 1]
        self.assertEqual(last(*TANGLE, told()), [45] + facilities + [12] + storages)

    def test_all_64_of_each(self):
        rows = [[4, f, 1] for f in EVERY], [[8, s, s + 1] for s in EVERY]
        shut = joined([[f, 1, 0] for f in EVERY])
        rooms = joined([[s, s + 1, 0, 0] for s in EVERY])
        self.assertEqual(last(together(*rows[0]), together(*rows[1]), told()), [192] + shut + [256] + rooms)


class Idle(unittest.TestCase):
    def test_new_bank(self):
        self.assertEqual(last(idle()), [64] + EVERY)

    def test_none(self):
        self.assertEqual(last(*[gate(f, 1) for f in EVERY], idle()), [0])
        self.assertEqual(last(all_of(5, 0, EVERY), idle()), [0])

    def test_neither_shut_nor_held(self):
        left = [f for f in EVERY if f not in (2, 7, 9, 30, 40, 50)]
        self.assertEqual(last(*TANGLE, idle()), [58] + left)

    def test_given_back_at_a_shut_facility(self):
        calls = [all_of(5, 0, EVERY[1:]), gate(9, 1), release(9, 5), release(8, 5)]
        self.assertEqual(last(*calls, idle()), [2, 0, 8])
        self.assertEqual(last(*calls, gate(9, 0), idle()), [3, 0, 8, 9])

    def test_a_shut_storage_does_not_matter(self):
        self.assertEqual(last(close(4, 1), idle()), [64] + EVERY)


class Counts(unittest.TestCase):
    def test_new_bank(self):
        self.assertEqual(last(counts()), [0, 0, 0, 0])

    def test_a_tangle(self):
        self.assertEqual(last(*TANGLE, counts()), [5, 4, 17, 4])

    def test_shut_and_empty_is_not_held(self):
        self.assertEqual(last(gate(4, 1), close(4, 1), counts()), [0, 0, 0, 0])

    def test_several_displaced_in_one_line(self):
        calls = [seize(4, 7), preempt(4, 6, 1), preempt(4, 5, 2, 1)]
        self.assertEqual(last(*calls, counts()), [1, 2, 0, 0])
        self.assertEqual(last(*calls, back(4, 5), counts()), [1, 1, 0, 0])
        self.assertEqual(last(*calls, purge(7), counts()), [1, 1, 0, 0])

    def test_an_id_counts_as_often_as_it_stands(self):
        calls = [all_of(5, 0, EVERY)] + [preempt(f, 6) for f in EVERY]
        self.assertEqual(last(*calls, counts()), [64, 64, 0, 0])

    def test_the_greatest_sums(self):
        rows = [[[8, s, MOST_ID] for s in EVERY], [[9, s, MOST_ID - s] for s in EVERY], [[11, s, 1] for s in EVERY]]
        self.assertEqual(last(*[together(*each) for each in rows], counts()),
                         [0, 0, 64 * MOST_ID, 64 * MOST_ID - 2016])


class ChangeNothing(Checks, unittest.TestCase):
    def test_each_question(self):
        for setup in ([], TANGLE):
            for question in QUESTIONS:
                self.assert_changes_nothing(last(*setup, question), setup, question)

    def test_asked_twice(self):
        answers = run(*TANGLE, *QUESTIONS, *QUESTIONS)[len(TANGLE):]
        self.assertEqual(answers[:len(QUESTIONS)], answers[len(QUESTIONS):])

    def test_dry_is_not_seen(self):
        seen = run(*TANGLE, *QUESTIONS)[-len(QUESTIONS):]
        rows = [[5, 5], [4, 0, 1], [8, 3, 99], [11, 3, 1]]
        self.assertEqual(run(*TANGLE, dry(*rows), *QUESTIONS)[-len(QUESTIONS):], seen)
        self.assertNotEqual(run(*TANGLE, together(*rows), *QUESTIONS)[-len(QUESTIONS):], seen)


if __name__ == "__main__":
    unittest.main()
