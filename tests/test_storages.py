"""room, enter, leave and close."""

import unittest

from tests.support import Checks, close, enter, last, leave, room, run, state_after, storage_after

MOST = 1000000000


class Room(Checks, unittest.TestCase):
    def test_any_room_is_let_while_nothing_is_used(self):
        for n in (0, 1, MOST):
            self.assertEqual(run(room(0, n), room(63, n)), [[0, 0], [0, 0]])
            self.assertEqual(storage_after(63, room(63, n)), (n, 0, 0))

    def test_not_less_than_is_used(self):
        setup = [room(7, 10), enter(7, 4)]
        self.assert_changes_nothing([-8], setup, room(7, 3))
        self.assert_changes_nothing([-8], setup, room(7, 0))
        self.assertEqual(last(*setup, room(7, 4)), [0, 0])
        self.assertEqual(storage_after(7, *setup, room(7, 4)), (4, 4, 0))
        self.assertEqual(storage_after(7, *setup, room(7, 5)), (5, 4, 0))

    def test_at_a_shut_storage(self):
        self.assertEqual(last(close(7, 1), room(7, 5)), [0, 0])
        self.assertEqual(storage_after(7, close(7, 1), room(7, 5)), (5, 0, 1))

    def test_other_storages_are_left(self):
        self.assertEqual(state_after(room(7, 5), room(8, 6)), ({}, {7: (5, 0, 0), 8: (6, 0, 0)}))


class Enter(Checks, unittest.TestCase):
    def test_new_storage_has_no_room(self):
        self.assert_changes_nothing([-8], [], enter(7, 1))
        self.assert_changes_nothing([-8], [], enter(7, MOST))

    def test_up_to_the_room(self):
        calls = [room(7, 10), enter(7, 4), enter(7, 5), enter(7, 1)]
        self.assertEqual(run(*calls), [[0, 0]] * 4)
        self.assertEqual(storage_after(7, *calls[:3]), (10, 9, 0))
        self.assertEqual(storage_after(7, *calls), (10, 10, 0))

    def test_the_greatest_room_at_once(self):
        calls = [room(7, MOST), enter(7, MOST)]
        self.assertEqual(last(*calls), [0, 0])
        self.assert_changes_nothing([1], calls, enter(7, 1))

    def test_not_enough_left_cannot_be_done_now(self):
        setup = [room(7, 10), enter(7, 4)]
        self.assert_changes_nothing([1], setup, enter(7, 7))
        self.assert_changes_nothing([1], setup, enter(7, 10))
        self.assertEqual(last(*setup, enter(7, 6)), [0, 0])

    def test_more_than_the_room_is_refused(self):
        self.assert_changes_nothing([-8], [room(7, 10), enter(7, 4)], enter(7, 11))

    def test_shut_cannot_be_done_now(self):
        setup = [room(7, 10), close(7, 1)]
        self.assert_changes_nothing([1], setup, enter(7, 1))
        self.assert_changes_nothing([1], setup, enter(7, 10))
        self.assert_changes_nothing([-8], setup, enter(7, 11))
        self.assertEqual(last(*setup, close(7, 0), enter(7, 10)), [0, 0])


class Leave(Checks, unittest.TestCase):
    def test_up_to_what_is_used(self):
        setup = [room(7, 10), enter(7, 4)]
        self.assertEqual(run(*setup, leave(7, 1), leave(7, 3))[2:], [[0, 0], [0, 0]])
        self.assertEqual(storage_after(7, *setup, leave(7, 1)), (10, 3, 0))
        self.assertEqual(storage_after(7, *setup, leave(7, 4)), (10, 0, 0))

    def test_more_than_is_used_is_refused(self):
        self.assert_changes_nothing([-8], [], leave(7, 1))
        self.assert_changes_nothing([-8], [room(7, 10), enter(7, 4)], leave(7, 5))
        self.assert_changes_nothing([-8], [room(7, 10), enter(7, 4), leave(7, 4)], leave(7, 1))
        self.assert_changes_nothing([-8], [room(7, 10), enter(7, 4)], leave(8, 1))

    def test_at_a_shut_storage(self):
        calls = [room(7, 10), enter(7, 4), close(7, 1), leave(7, 3)]
        self.assertEqual(last(*calls), [0, 0])
        self.assertEqual(storage_after(7, *calls), (10, 1, 1))
        self.assert_changes_nothing([-8], calls, leave(7, 2))


class Close(unittest.TestCase):
    def test_shut_and_open_whatever_it_was(self):
        calls = [close(7, 0), close(7, 1), close(7, 1), close(7, 0), close(7, 0)]
        self.assertEqual(run(*calls), [[0, 0]] * 5)
        self.assertEqual([storage_after(7, *calls[:count])[2] for count in range(6)], [0, 0, 1, 1, 0, 0])

    def test_room_and_used_stay(self):
        setup = [room(7, 10), enter(7, 4)]
        self.assertEqual(storage_after(7, *setup, close(7, 1)), (10, 4, 1))
        self.assertEqual(storage_after(7, *setup, close(7, 1), close(7, 0)), (10, 4, 0))

    def test_neither_facilities_nor_other_storages_are_shut(self):
        self.assertEqual(state_after(close(7, 1)), ({}, {7: (0, 0, 1)}))


if __name__ == "__main__":
    unittest.main()
