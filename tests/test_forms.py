"""-9 and -1: the forms of the calls, and the ranges of their numbers."""

import unittest

from tests.support import FAR, Checks, call, gate, last, preempt, room, seize

F = S = (0, 63)
X = (1, 1000000000)
P = (-1000, 1000)
K = (0, 1)

# By place: the ranges of the numbers, and how many lists there are (None: any number).
TOLD = {
    0: ((F, X, P), 0),
    1: ((F, X, P, K, K), 0),
    2: ((F, X), 0),
    3: ((F, X), 0),
    4: ((F, K), 0),
    5: ((X,), 0),
    6: ((X, P), 1),
    7: ((X, P), 1),
    8: ((S, (0, 1000000000)), 0),
    9: ((S, (1, 1000000000)), 0),
    10: ((S, (1, 1000000000)), 0),
    11: ((S, K), 0),
    12: ((), None),
    13: ((), None),
}

SETUP = [seize(0, 1), preempt(0, 2), gate(1, 1), room(1, 5)]


class NoCall(Checks, unittest.TestCase):
    def test_unknown_places(self):
        for place in (-1, -2, 27, 28, 100, FAR, -FAR):
            for numbers in ([], [1], [1, 1], [1, 1, 1], [FAR] * 5, [0] * 19):
                for lists in ([], [[]], [[1]], [[1], [2]]):
                    self.assert_changes_nothing([-9], SETUP, call(place, numbers, lists))

    def test_another_count_of_numbers(self):
        for place, (ranges, lists) in TOLD.items():
            for count in range(20):
                if count != len(ranges):
                    for number in (0, 1, FAR, -FAR):
                        rows = [[3]] * (lists or 0)
                        self.assert_changes_nothing([-9], SETUP, call(place, [number] * count, rows))

    def test_another_count_of_lists(self):
        for place, (ranges, lists) in TOLD.items():
            if lists is None:
                continue
            for count in (0, 1, 2, 3, 199):
                if count != lists:
                    for numbers in ([low for low, high in ranges], [high + 1 for low, high in ranges]):
                        for row in ([], [3], [FAR, FAR]):
                            self.assert_changes_nothing([-9], SETUP, call(place, numbers, [row] * count))

    def test_asked_before_rows_of_together_and_dry(self):
        for place in (12, 13):
            for rows in ([], [[]], [[4, 0, 1]], [[4, 0, 1]] * 199):
                self.assert_changes_nothing([-9], SETUP, call(place, [0], rows))


class Ranges(Checks, unittest.TestCase):
    def edges(self):
        for place, (ranges, lists) in TOLD.items():
            for at, bounds in enumerate(ranges):
                numbers = [low for low, high in ranges]
                yield place, numbers, at, bounds, [[3]] * (lists or 0)

    def test_beyond_on_either_side(self):
        for place, numbers, at, (low, high), lists in self.edges():
            for number in (low - 1, high + 1, FAR, -FAR):
                with self.subTest(place=place, at=at, number=number):
                    tried = call(place, numbers[:at] + [number] + numbers[at + 1:], lists)
                    self.assert_changes_nothing([-1], [], tried)
                    self.assert_changes_nothing([-1], SETUP, tried)

    def test_least_and_greatest(self):
        for place, numbers, at, bounds, lists in self.edges():
            for number in bounds:
                with self.subTest(place=place, at=at, number=number):
                    tried = call(place, numbers[:at] + [number] + numbers[at + 1:], lists)
                    self.assertNotIn(last(tried), ([-1], [-9]))

    def test_several_out_of_range(self):
        for place, (ranges, lists) in TOLD.items():
            if ranges:
                for number in (FAR, -FAR):
                    self.assert_changes_nothing([-1], SETUP, call(place, [number] * len(ranges), [[]] * (lists or 0)))

    def test_asked_before_what_the_sentence_tells(self):
        self.assert_changes_nothing([-1], SETUP, seize(0, 2, 1001))
        self.assert_changes_nothing([-1], SETUP, preempt(0, 1, 0, 0, 2))
        self.assert_changes_nothing([-1], SETUP, preempt(0, 2, 0, 2, 0))
        self.assert_changes_nothing([-1], SETUP, preempt(1, 9, -1001, 0, 0))


if __name__ == "__main__":
    unittest.main()
