"""facilitybank.bank.answers: what is handed in and what is given back."""

import unittest

import facilitybank.bank
from facilitybank.bank import answers
from tests.support import (
    FAR, all_of, back, call, close, dry, enter, gate, joined, leave, one, parted, preempt, purge, release, room, run,
    seize, together,
)

# Every call, done, not done and refused.
MANY = [
    seize(0, 5, 7), seize(0, 6), seize(0, 5), preempt(0, 6, 8, 1, 1), preempt(0, 5), release(0, 6), back(0, 6),
    gate(1, 1), gate(64, 1), purge(5), purge(5), all_of(7, 0, [2, 3]), all_of(8, 0, [3, 4]), all_of(8, 0, []),
    one(8, 0, [3, 4]), one(9, 0, [9, 9]), room(0, 10), enter(0, 4), enter(0, 7), leave(0, 5), leave(0, 1),
    close(0, 1), together([0, 9, 9, 9], [1, 9, 8, 9, 0, 0]), together([]), together([5, 1000]), dry([5, 7]),
    dry([4, 0]), call(27, [FAR], [[1, 2], []]), call(0, [], []), call(12, [1], [[5, 7]]), preempt(0, 5, 0, 2, 0),
]

TOLD = [
    [0, 0], [1], [-3], [0, 1, 0, 5], [-4], [-7], [0, 1, 1, 5],
    [0, 0], [-1], [0, 0], [-10], [0, 0], [1], [-2],
    [0, 1, 3, 4], [-2], [0, 0], [0, 0], [1], [-8], [0, 0],
    [0, 0], [0, 1, 2, 9], [-2], [2, 0, -10], [0, 0],
    [-2], [-9], [-9], [-9], [-1],
]


class Interface(unittest.TestCase):
    def test_by_the_numbers(self):
        self.assertEqual(answers([0, 3, 1, 5, 0, 0]), [2, 0, 0])
        self.assertEqual(answers([0, 3, 1, 5, 0, 0, 1, 5, 1, 6, 0, 0, 1, 0]), [2, 0, 0, 4, 0, 1, 0, 5])
        self.assertEqual(answers([7, 2, 5, 0, 1, 3, 9, 8, 7, 2, 2, 9, 5, 0]), [4, 0, 1, 3, 9, 2, 0, 0])
        self.assertEqual(answers([12, 0, 2, 3, 4, 0, 1, 4, 0, 0, 5, 0]), [3, 2, 1, 1])
        self.assertEqual(answers([12, 0, 0, 99, 0, 0]), [2, 0, 0, 1, -9])

    def test_every_call_in_a_row(self):
        self.assertEqual(run(*MANY), TOLD)

    def test_an_answer_for_each_call(self):
        for count in range(1, len(MANY) + 1):
            self.assertEqual(parted(answers(joined(MANY[:count]))), TOLD[:count])

    def test_what_is_handed_in_stays(self):
        handed = joined(MANY)
        answers(handed)
        self.assertEqual(handed, joined(MANY))

    def test_twice_gives_the_same(self):
        handed = joined(MANY)
        first = answers(handed)
        answers(joined([gate(f, 1) for f in range(64)]))
        self.assertEqual(answers(handed), first)

    def test_what_is_given_back_is_new_and_of_whole_numbers(self):
        handed = joined(MANY)
        given = answers(handed)
        self.assertIs(type(given), list)
        self.assertEqual({type(number) for number in given}, {int})
        given.clear()
        self.assertEqual(run(*MANY), TOLD)

    def test_the_name_stands_where_it_is_told(self):
        self.assertIs(facilitybank.bank.answers, answers)

    def test_150_calls(self):
        self.assertEqual(run(*[seize(0, 5), release(0, 5)] * 75), [[0, 0]] * 150)

    def test_as_long_as_may_be(self):
        handed = joined([together(*[[9, 0, 1]] * 100) for number in range(30)])
        self.assertEqual(parted(answers(handed)), [[2, 0, -8]] * 30)
        row = [FAR] * 4100
        self.assertEqual(run(all_of(5, 0, row), one(5, 0, row), call(30, [FAR] * 19, [row])), [[-2], [-2], [-9]])


if __name__ == "__main__":
    unittest.main()
