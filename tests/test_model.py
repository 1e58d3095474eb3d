"""Long runs of calls, held against the model; the seeds are fixed, so each run is the same."""

import collections
import random
import unittest

from facilitybank.bank import answer_of, answers
from facilitybank.state import Bank
from tests import model
from tests.support import call, joined, parted

# Few ids, facilities and storages, so that calls meet one another.
KINDS = {"f": 4, "s": 3, "x": 6, "p": 4, "k": 2, "n": 5, "r": 9}
OUTSIDE = (-1, 64, 1001, -1001, 10**9 + 1, 10**18, -10**18)


def some_number(chance, kind):
    if chance.random() < 0.01:
        return chance.choice(OUTSIDE)
    return chance.randrange(KINDS[kind]) + (kind in "xn")


def some_row(chance):
    place = chance.choice((0, 0, 1, 1, 1, 2, 3, 3, 4, 5, 8, 9, 9, 10, 11))
    row = [place] + [some_number(chance, kind) for kind in model.FORMS[place]]
    if chance.random() < 0.004:
        return chance.choice(([], row + [0], row[:-1], [chance.randrange(-1, 30)] + row[1:]))
    return row


def some_part(chance):
    """A facility or a storage of a list for load: most are good, some aren't."""
    p = chance.randrange(3)
    line = [[x, 1, p + 9 - at] for at, x in enumerate(chance.sample(range(1, 7), chance.randrange(4)))]
    if line and chance.random() < 0.7:
        line[-1][1:] = [0, chance.randrange(9)]
    facility = [int(not line or chance.random() < 0.2), len(line), *[number for entry in line for number in entry]]
    most = chance.randrange(9)
    storage = [most, chance.randrange(most + 1), int(most == 0 or chance.random() < 0.2)]
    return facility, storage


def some_load(chance):
    facilities, storages = [], []
    for number in range(6):
        facility, storage = some_part(chance)
        facilities += [number] + facility if chance.random() < 0.6 else []
        storages += [number] + storage if chance.random() < 0.6 else []
    lists = [facilities, storages]
    if chance.random() < 0.5:
        spoilt = chance.choice(lists)
        if spoilt:
            at = chance.randrange(len(spoilt))
            spoilt[at:at + 1] = chance.choice(([], [spoilt[at] + 1], [spoilt[at] - 1], [chance.choice(OUTSIDE)]))
    return lists


def some_rows(chance, kinds):
    ids = chance.sample(range(1, 11), chance.choice((0, 1, 2, 3, 4, 5, 6, 7)))
    rows = [number for x in ids for number in [x] + [some_number(chance, kind) for kind in kinds[1:]]]
    if chance.random() < 0.03:
        rows.append(chance.randrange(1, 4))
    if chance.random() < 0.03:
        rows += [1] + [0] * (len(kinds) - 1)
    return rows


def some_lists(chance, place):
    if place in (6, 7):
        row = chance.sample(range(6), chance.choice((0, 1, 1, 2, 2, 3, 4)))
        return [row + [some_number(chance, "f")] if chance.random() < 0.05 else row]
    if place in (12, 13):
        return [some_row(chance) for number in range(chance.choice((0, 1, 1, 2, 2, 3, 5, 8)))]
    if place == 19:
        return some_load(chance)
    if place == 24:
        claims = some_rows(chance, "xnr")
        if chance.random() < 0.9:
            # Units that one has are made no more than its most, and few.
            for at in range(1, len(claims) - 1, 3):
                claims[at] = chance.randrange(2)
                claims[at + 1] = max(claims[at:at + 2])
        return [claims]
    return [some_rows(chance, {21: "xf", 22: "xf", 23: "xfp"}[place])] if place in (21, 22, 23) else []


CALLS = (0, 0, 0, 1, 1, 1, 1, 2, 2, 3, 3, 4, 5, 6, 7, 8, 9, 9, 10, 11, 12, 12, 13)
OTHERS = (14, 15, 16, 17, 18, 19, 21, 21, 22, 22, 23, 23, 24, 24, 25, 26)


def some_call(chance):
    place = 20 if chance.random() < 0.01 else chance.choice(chance.choice((CALLS, CALLS, OTHERS)))
    numbers = [some_number(chance, kind) for kind in model.FORMS[place]]
    lists = some_lists(chance, place)
    if chance.random() < 0.01:
        numbers.append(0)
    if chance.random() < 0.01 and place not in (12, 13):
        lists.append([1])
    return place, numbers, lists


def as_model(bank):
    told = {("f", f): (bank.shut[f], tuple(bank.lines[f])) for f in range(64)}
    return told | {("s", s): (bank.rooms[s], bank.used[s], bank.closed[s]) for s in range(64)}


class Model(unittest.TestCase):
    def test_answers_and_banks_are_the_same(self):
        met = collections.Counter()
        for seed in range(80):
            chance = random.Random(seed)
            calls = [some_call(chance) for number in range(150)]
            bank, other, told = Bank(), model.NEW, []
            for place, numbers, lists in calls:
                answer, other = model.answer(other, place, numbers, lists)
                told.append(answer)
                self.assertEqual(answer_of(bank, place, numbers, lists), answer, (place, numbers, lists))
                self.assertEqual(as_model(bank), other)
                # Of those that tell how many there are, more than two count as two.
                met[place, min(answer[0], 2)] += 1
            self.assertEqual(parted(answers(joined([call(*each) for each in calls]))), told)
        # The runs are worth something only if they come by all that can be answered.
        for place in list(range(14)) + [19, 20, 21, 22, 24]:
            self.assertGreater(met[place, 0], 20, place)
        for place in (6, 7, 19, 21, 22, 23, 24):
            self.assertGreater(met[place, -2], 10, place)
        for place, first in ((24, 1), (24, -8), (21, 2), (22, 1), (22, 2), (23, 2)):
            self.assertGreater(met[place, first], 20, (place, first))
        for refusal in (-1, -2, -3, -4, -6, -7, -8, -9, -10, 1, 2):
            found = [count for (place, first), count in met.items() if first == refusal and place < 14]
            self.assertGreater(sum(found), 20, refusal)

    def test_thickets(self):
        """Many that hold, are displaced and wish at once, so that rings are long and tails hang on them."""
        lengths = collections.Counter()
        for seed in range(300):
            chance = random.Random(seed)
            people = chance.randrange(2, 30)
            facilities = []
            held = sorted(chance.sample(range(64), chance.randrange(1, 30)))
            for f in held:
                ids = chance.sample(range(1, people + 1), min(people, chance.choice((1, 1, 1, 2, 3))))
                top = chance.randrange(-900, 900)
                facilities += [f, 0, len(ids), *[n for at, x in enumerate(ids) for n in (x, 1, top - at)]]
            wishing = chance.sample(range(1, people + 5), chance.randrange(people))
            wishes = [[x, chance.choice(held), chance.randrange(-1000, 1001)] for x in wishing]
            pairs = [number for wish in wishes for number in wish[:2]]
            asked = [(19, [], [facilities, []]), (21, [], [pairs]), (22, [], [pairs]), (23, [], [joined(wishes)])]
            bank, says = model.NEW, []
            for each in asked:
                answer, bank = model.answer(bank, *each)
                says.append(answer)
            self.assertEqual(parted(answers(joined([call(*each) for each in asked]))), says)
            self.assertEqual(says[0], [0, 0])
            lengths[says[2][0]] += 1
        for length in range(5):
            self.assertGreater(lengths[length], 5, lengths)


if __name__ == "__main__":
    unittest.main()
