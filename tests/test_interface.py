"""facilitybank.bank.answers: what is handed in and what is given back."""

import unittest

import facilitybank.bank
from facilitybank.bank import answers
from facilitybank.reading import read_calls
from tests import model
from tests.support import (
    FAR, all_of, back, call, clear, close, counts, dead, dry, enter, gate, halted, holder, idle, inherit, joined, leave,
    load, one, part, parted, place, preempt, purge, release, ring, room, run, safe, seize, storage, together, told,
)

# Every call, done, not done and refused.
MANY = [
    seize(0, 5, 7), seize(0, 6), seize(0, 5), preempt(0, 6, 8, 1, 1), preempt(0, 5), release(0, 6), back(0, 6),
    gate(1, 1), gate(64, 1), purge(5), purge(5), all_of(7, 0, [2, 3]), all_of(8, 0, [3, 4]), all_of(8, 0, []),
    one(8, 0, [3, 4]), one(9, 0, [9, 9]), room(0, 10), enter(0, 4), enter(0, 7), leave(0, 5), leave(0, 1),
    close(0, 1), together([0, 9, 9, 9], [1, 9, 8, 9, 0, 0]), together([]), together([5, 1000]), dry([5, 7]),
    dry([4, 0]), call(27, [FAR], [[1, 2], []]), call(0, [], []), call(12, [1], [[5, 7]]), preempt(0, 5, 0, 2, 0),
    preempt(9, 4, 10, 1, 1), holder(9), holder(64), place(8), place(0), halted(), storage(0), storage(-1), told(),
    dead([4, 2], [7, 9]), dead([4, 2, 7]), ring([4, 2], [7, 9]), ring([4, 64]), inherit([6, 9, 20], [7, 9, 30]),
    inherit([6, 9]), safe(0, [1, 2, 9], [2, 1, 8]), safe(0, [1, 4, 9]), safe(0, [1, 2, 1]), safe(64), counts(),
    load([9, 0, 0]), load(part(1, 1, [5, 1, -1], [6, 0, 0]), [2, 3, 2, 0]), told(), back(1, 5), gate(1, 0), enter(2, 1),
    together([4, 3, 1], [10, 2, 3]), told(), clear(), idle(), counts(), load(), call(19), call(20, [1]), told(),
]

TOLD = [
    [0, 0], [1], [-3], [0, 1, 0, 5], [-4], [-7], [0, 1, 1, 5],
    [0, 0], [-1], [0, 0], [-10], [0, 0], [1], [-2],
    [0, 1, 3, 4], [-2], [0, 0], [0, 0], [1], [-8], [0, 0],
    [0, 0], [0, 1, 2, 9], [-2], [2, 0, -10], [0, 0],
    [-2], [-9], [-9], [-9], [-1],
    [0, 1, 0, 8], [0, 2, 4, 1, 10, 8, 1, 9], [-1], [1, 4, 1, 9], [-1], [1, 8, 1], [10, 3, 1], [-1],
    [30, 1, 1, 0, 2, 0, 1, 7, 0, 0, 3, 0, 1, 7, 0, 0, 4, 0, 1, 8, 0, 0, 9, 0, 2, 4, 1, 10, 8, 1, 9, 4, 0, 10, 3, 1],
    [3, 4, 7, 8], [-2], [2, 4, 7], [-2], [4, 4, 30, 6, 20, 7, 30, 8, 9],
    [-2], [0, 2, 1, 2], [-8], [-2], [-1], [4, 1, 10, 3],
    [-2], [0, 0], [9, 1, 1, 2, 5, 1, -1, 6, 0, 0, 4, 2, 3, 2, 0], [0, 1, 1, 6], [0, 0], [0, 0],
    [0, 0], [9, 1, 0, 1, 6, 0, 0, 3, 1, 0, 4, 2, 3, 0, 0], [0, 0], [64, *range(64)], [0, 0, 0, 0], [0, 0], [-9], [-9],
    [0, 0],
]


class Interface(unittest.TestCase):
    def test_by_the_numbers(self):
        self.assertEqual(answers([0, 3, 1, 5, 0, 0]), [2, 0, 0])
        self.assertEqual(answers([0, 3, 1, 5, 0, 0, 1, 5, 1, 6, 0, 0, 1, 0]), [2, 0, 0, 4, 0, 1, 0, 5])
        self.assertEqual(answers([7, 2, 5, 0, 1, 3, 9, 8, 7, 2, 2, 9, 5, 0]), [4, 0, 1, 3, 9, 2, 0, 0])
        self.assertEqual(answers([12, 0, 2, 3, 4, 0, 1, 4, 0, 0, 5, 0]), [3, 2, 1, 1])
        self.assertEqual(answers([12, 0, 0, 99, 0, 0]), [2, 0, 0, 1, -9])
        self.assertEqual(answers([14, 1, 5, 0, 16, 0, 0, 18, 0, 0]), [2, 0, 0, 1, 0, 2, 0, 0])
        self.assertEqual(answers([19, 0, 2, 3, 5, 1, 0, 4, 6, 1, 1, 0, 18, 0, 0, 20, 0, 0, 18, 0, 0]),
                         [2, 0, 0, 9, 3, 5, 1, 0, 4, 6, 1, 1, 0, 2, 0, 0, 2, 0, 0])
        self.assertEqual(answers([19, 0, 2, 0, 0, 21, 0, 1, 2, 5, 9, 22, 0, 1, 0, 24, 1, 5, 1, 3, 7, 0, 1, 26, 0, 0]),
                         [2, 0, 0, 1, 0, 1, 0, 2, 1, 0, 4, 0, 0, 0, 0])

    def test_every_call_in_a_row(self):
        self.assertEqual(run(*MANY), TOLD)

    def test_an_answer_for_each_call(self):
        for count in range(1, len(MANY) + 1):
            self.assertEqual(parted(answers(joined(MANY[:count]))), TOLD[:count])

    def test_what_is_handed_in_stays(self):
        handed = joined(MANY)
        answers(handed)
        self.assertEqual(handed, joined(MANY))

    def test_twice_gives_the_same(self):
        handed = joined(MANY)
        first = answers(handed)
        answers(joined([gate(f, 1) for f in range(64)]))
        self.assertEqual(answers(handed), first)

    def test_what_is_given_back_is_new_and_of_whole_numbers(self):
        handed = joined(MANY)
        given = answers(handed)
        self.assertIs(type(given), list)
        self.assertEqual({type(number) for number in given}, {int})
        given.clear()
        self.assertEqual(run(*MANY), TOLD)

    def test_the_name_stands_where_it_is_told(self):
        self.assertIs(facilitybank.bank.answers, answers)

    def test_every_place_is_among_the_calls(self):
        self.assertEqual({number for number, numbers, lists in read_calls(joined(MANY))}, {*range(28)})

    def test_from_every_call_on_and_backwards(self):
        """Whatever stands before or behind, the calls answer as the model says."""
        orders = [MANY[at:] + MANY[:at] for at in range(len(MANY))]
        for order in orders + [MANY[::-1], MANY[::2] + MANY[1::2]]:
            bank, says = model.NEW, []
            for number, numbers, lists in read_calls(joined(order)):
                answer, bank = model.answer(bank, number, numbers, lists)
                says.append(answer)
            self.assertEqual(run(*order), says)

    def test_150_calls(self):
        self.assertEqual(run(*[seize(0, 5), release(0, 5)] * 75), [[0, 0]] * 150)
        self.assertEqual(run(*[seize(0, 5), counts(), clear()] * 50), [[0, 0], [1, 0, 0, 0], [0, 0]] * 50)
        lines = [load(part(0, 0, [x, 0, 0])) for x in range(1, 76)]
        self.assertEqual(run(*[each for line in lines for each in (line, told())]),
                         [each for x in range(1, 76) for each in ([0, 0], [6, 0, 0, 1, x, 0, 0, 0])])

    def test_149_questions_of_a_full_bank(self):
        # 21 facilities with 64 entries each: with the heads, as many as a list for load may have.
        full = joined([part(f, 0, *[[f * 64 + at + 1, 1, 900 - at] for at in range(64)]) for f in range(21)])
        self.assertLessEqual(len(full), 4100)
        # Each line's holder has the line's greatest priority, so that nobody inherits a greater one.
        inherited = [1344] + [n for x in range(1, 1345) for n in (x, 900 - (x - 1) % 64)]
        whole = [told(), inherit(), dead(), ring(), halted()]
        says = run(load(full), *(whole * 30)[:149])
        self.assertEqual(says[1:6], [[len(full)] + full + [0], inherited, [0], [0],
                                     [1323] + [n for x in range(1, 1345) if x % 64 != 1 for n in (x, 1)]])
        self.assertEqual(says[6:], (says[1:6] * 30)[5:149])

    def test_as_long_as_may_be(self):
        handed = joined([together(*[[9, 0, 1]] * 100) for number in range(30)])
        self.assertEqual(parted(answers(handed)), [[2, 0, -8]] * 30)
        row = [FAR] * 4100
        self.assertEqual(run(all_of(5, 0, row), one(5, 0, row), call(30, [FAR] * 19, [row])), [[-2], [-2], [-9]])


if __name__ == "__main__":
    unittest.main()
