"""Long runs of calls, held against the model; the seeds are fixed, so each run is the same."""

import collections
import random
import unittest

from facilitybank.bank import answer_of, answers
from facilitybank.state import Bank
from tests import model
from tests.support import call, joined, parted

# Few ids, facilities and storages, so that calls meet one another.
KINDS = {"f": 4, "s": 3, "x": 6, "p": 4, "k": 2, "n": 5, "r": 9}
OUTSIDE = (-1, 64, 1001, -1001, 10**9 + 1, 10**18, -10**18)


def some_number(chance, kind):
    if chance.random() < 0.01:
        return chance.choice(OUTSIDE)
    return chance.randrange(KINDS[kind]) + (kind in "xn")


def some_row(chance):
    place = chance.choice((0, 0, 1, 1, 1, 2, 3, 3, 4, 5, 8, 9, 9, 10, 11))
    row = [place] + [some_number(chance, kind) for kind in model.FORMS[place]]
    if chance.random() < 0.004:
        return chance.choice(([], row + [0], row[:-1], [chance.randrange(-1, 30)] + row[1:]))
    return row


def some_call(chance):
    place = chance.choice((0, 0, 0, 1, 1, 1, 1, 2, 2, 3, 3, 4, 5, 6, 7, 8, 9, 9, 10, 11, 12, 12, 13))
    numbers = [some_number(chance, kind) for kind in model.FORMS[place]]
    lists = []
    if place in (6, 7):
        size = chance.choice((0, 1, 1, 2, 2, 3, 4))
        lists = [chance.sample(range(6), size)]
        if chance.random() < 0.05:
            lists[0].append(some_number(chance, "f"))
    if place in (12, 13):
        lists = [some_row(chance) for number in range(chance.choice((0, 1, 1, 2, 2, 3, 5, 8)))]
    if chance.random() < 0.01:
        numbers.append(0)
    if chance.random() < 0.01 and place < 12:
        lists.append([1])
    return place, numbers, lists


def as_model(bank):
    told = {("f", f): (bank.shut[f], tuple(bank.lines[f])) for f in range(64)}
    return told | {("s", s): (bank.rooms[s], bank.used[s], bank.closed[s]) for s in range(64)}


class Model(unittest.TestCase):
    def test_answers_and_banks_are_the_same(self):
        met = collections.Counter()
        for seed in range(60):
            chance = random.Random(seed)
            calls = [some_call(chance) for number in range(150)]
            bank, other, told = Bank(), model.NEW, []
            for place, numbers, lists in calls:
                answer, other = model.answer(other, place, numbers, lists)
                told.append(answer)
                self.assertEqual(answer_of(bank, place, numbers, lists), answer)
                self.assertEqual(as_model(bank), other)
                met[place, answer[0]] += 1
            self.assertEqual(parted(answers(joined([call(*each) for each in calls]))), told)
        # The runs are worth something only if they come by all that can be answered.
        for place in range(14):
            self.assertGreater(met[place, 0], 20, place)
        for refusal in (-1, -2, -3, -4, -6, -7, -8, -9, -10, 1, 2):
            self.assertGreater(sum(count for (place, first), count in met.items() if first == refusal), 20, refusal)


if __name__ == "__main__":
    unittest.main()
