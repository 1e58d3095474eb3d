"""-9 and -1: the forms of the calls, and the ranges of their numbers."""

import unittest

from tests.support import (
    FAR, MOST_ID, Checks, call, enter, gate, holder, last, place, preempt, room, run, safe, seize, storage,
)

F = S = (0, 63)
X = (1, 1000000000)
P = (-1000, 1000)
K = (0, 1)

# By place: the ranges of the numbers, and how many lists there are (None: any number).
TOLD = {
    0: ((F, X, P), 0),
    1: ((F, X, P, K, K), 0),
    2: ((F, X), 0),
    3: ((F, X), 0),
    4: ((F, K), 0),
    5: ((X,), 0),
    6: ((X, P), 1),
    7: ((X, P), 1),
    8: ((S, (0, 1000000000)), 0),
    9: ((S, (1, 1000000000)), 0),
    10: ((S, (1, 1000000000)), 0),
    11: ((S, K), 0),
    12: ((), None),
    13: ((), None),
    14: ((F,), 0),
    15: ((X,), 0),
    16: ((), 0),
    17: ((S,), 0),
    18: ((), 0),
    19: ((), 2),
    20: ((), 0),
    21: ((), 1),
    22: ((), 1),
    23: ((), 1),
    24: ((S,), 1),
    25: ((), 0),
    26: ((), 0),
}

SETUP = [seize(0, 1), preempt(0, 2), gate(1, 1), room(1, 5)]


class NoCall(Checks, unittest.TestCase):
    def test_unknown_places(self):
        for place in (-1, -2, 27, 28, 100, FAR, -FAR):
            for numbers in ([], [1], [1, 1], [1, 1, 1], [FAR] * 5, [0] * 19):
                for lists in ([], [[]], [[1]], [[1], [2]]):
                    self.assert_changes_nothing([-9], SETUP, call(place, numbers, lists))

    def test_another_count_of_numbers(self):
        for place, (ranges, lists) in TOLD.items():
            for count in range(20):
                if count != len(ranges):
                    for number in (0, 1, FAR, -FAR):
                        rows = [[3]] * (lists or 0)
                        self.assert_changes_nothing([-9], SETUP, call(place, [number] * count, rows))

    def test_another_count_of_lists(self):
        for place, (ranges, lists) in TOLD.items():
            if lists is None:
                continue
            for count in (0, 1, 2, 3, 199):
                if count != lists:
                    for numbers in ([low for low, high in ranges], [high + 1 for low, high in ranges]):
                        for row in ([], [3], [FAR, FAR]):
                            self.assert_changes_nothing([-9], SETUP, call(place, numbers, [row] * count))

    def test_asked_before_rows_of_together_and_dry(self):
        for place in (12, 13):
            for rows in ([], [[]], [[4, 0, 1]], [[4, 0, 1]] * 199):
                self.assert_changes_nothing([-9], SETUP, call(place, [0], rows))

    def test_asked_before_the_lists_of_the_others(self):
        for place, lists in ((19, 2), (21, 1), (22, 1), (23, 1)):
            for row in ([], [3], [FAR] * 4):
                self.assert_changes_nothing([-9], SETUP, call(place, [0], [row] * lists))
        for numbers in ([], [0, 0], [64, 0], [FAR] * 19):
            self.assert_changes_nothing([-9], SETUP, call(24, numbers, [[]]))

    def test_every_place_has_a_form(self):
        self.assertEqual(list(TOLD), list(range(27)))
        for place, (ranges, lists) in TOLD.items():
            self.assertNotEqual(last(call(place, [high for low, high in ranges], [[]] * (lists or 0))), [-9], place)


class Ranges(Checks, unittest.TestCase):
    def edges(self):
        for place, (ranges, lists) in TOLD.items():
            for at, bounds in enumerate(ranges):
                numbers = [low for low, high in ranges]
                yield place, numbers, at, bounds, [[3]] * (lists or 0)

    def test_beyond_on_either_side(self):
        for place, numbers, at, (low, high), lists in self.edges():
            for number in (low - 1, high + 1, FAR, -FAR):
                with self.subTest(place=place, at=at, number=number):
                    tried = call(place, numbers[:at] + [number] + numbers[at + 1:], lists)
                    self.assert_changes_nothing([-1], [], tried)
                    self.assert_changes_nothing([-1], SETUP, tried)

    def test_least_and_greatest(self):
        for place, numbers, at, bounds, lists in self.edges():
            for number in bounds:
                with self.subTest(place=place, at=at, number=number):
                    tried = call(place, numbers[:at] + [number] + numbers[at + 1:], lists)
                    self.assertNotIn(last(tried), ([-1], [-9]))

    def test_several_out_of_range(self):
        for place, (ranges, lists) in TOLD.items():
            if ranges:
                for number in (FAR, -FAR):
                    self.assert_changes_nothing([-1], SETUP, call(place, [number] * len(ranges), [[]] * (lists or 0)))

    def test_asked_before_what_the_sentence_tells(self):
        self.assert_changes_nothing([-1], SETUP, seize(0, 2, 1001))
        self.assert_changes_nothing([-1], SETUP, preempt(0, 1, 0, 0, 2))
        self.assert_changes_nothing([-1], SETUP, preempt(0, 2, 0, 2, 0))
        self.assert_changes_nothing([-1], SETUP, preempt(1, 9, -1001, 0, 0))

    def test_of_questions(self):
        self.assertEqual(run(*[holder(f) for f in (-1, 0, 63, 64)]), [[-1], [0, 0], [0, 0], [-1]])
        self.assertEqual(run(*[place(x) for x in (0, 1, MOST_ID, MOST_ID + 1)]), [[-1], [0, 0], [0, 0], [-1]])
        self.assertEqual(run(*[storage(s) for s in (-1, 0, 63, 64)]), [[-1], [0, 0, 0], [0, 0, 0], [-1]])
        self.assertEqual(run(*[safe(s) for s in (-1, 0, 63, 64)]), [[-1], [0, 0], [0, 0], [-1]])

    def test_of_safe_before_its_claims(self):
        setup = SETUP + [enter(1, 2)]
        for s in (-1, 64, FAR, -FAR):
            self.assert_changes_nothing([-1], setup, call(24, [s], [[5]]))
            self.assert_changes_nothing([-1], setup, safe(s, [5, 0, 0], [5, 0, 0]))
            self.assert_changes_nothing([-1], setup, safe(s, [5, 3, 3]))


if __name__ == "__main__":
    unittest.main()
