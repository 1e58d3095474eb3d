"""Builders of calls, and two ways to look at what they do."""

from facilitybank.bank import answer_of, answers
from facilitybank.reading import read_calls
from facilitybank.state import Bank

FAR = 1000000000000000000
MOST_ID = 1000000000


def call(place, numbers=(), lists=()):
    flat = [place, len(numbers), *numbers, len(lists)]
    for row in lists:
        flat += [len(row), *row]
    return flat


def seize(f, x, p=0):
    return call(0, [f, x, p])


def preempt(f, x, p=0, rule=0, keep=1):
    return call(1, [f, x, p, rule, keep])


def release(f, x):
    return call(2, [f, x])


def back(f, x):
    return call(3, [f, x])


def gate(f, k):
    return call(4, [f, k])


def purge(x):
    return call(5, [x])


def all_of(x, p, places):
    return call(6, [x, p], [places])


def one(x, p, places):
    return call(7, [x, p], [places])


def room(s, n):
    return call(8, [s, n])


def enter(s, n):
    return call(9, [s, n])


def leave(s, n):
    return call(10, [s, n])


def close(s, k):
    return call(11, [s, k])


def together(*rows):
    return call(12, [], rows)


def dry(*rows):
    return call(13, [], rows)


def holder(f):
    return call(14, [f])


def place(x):
    return call(15, [x])


def halted():
    return call(16)


def storage(s):
    return call(17, [s])


def told():
    return call(18)


def load(facilities=(), storages=()):
    return call(19, [], [facilities, storages])


def clear():
    return call(20)


def dead(*wishes):
    return call(21, [], [joined(wishes)])


def ring(*wishes):
    return call(22, [], [joined(wishes)])


def inherit(*wishes):
    return call(23, [], [joined(wishes)])


def safe(s, *claims):
    return call(24, [s], [joined(claims)])


def idle():
    return call(25)


def counts():
    return call(26)


def part(f, shut, *entries):
    """A facility's part of a list for load, of its entries."""
    return [f, shut, len(entries), *joined(entries)]


def joined(calls):
    return [number for each in calls for number in each]


def parted(flat):
    """The answers of a flat list of counted answers, each a list."""
    found = []
    at = 0
    while at < len(flat):
        found.append(flat[at + 1:at + 1 + flat[at]])
        at += 1 + flat[at]
    return found


def run(*calls):
    """What each of the calls answers."""
    return parted(answers(joined(calls)))


def last(*calls):
    """What the last of the calls answers."""
    return run(*calls)[-1]


def state_after(*calls):
    """What isn't as in a new bank: facilities, then storages, by number."""
    bank = Bank()
    for place, numbers, lists in read_calls(joined(calls)):
        answer_of(bank, place, numbers, lists)
    facilities = {}
    for f in range(64):
        if bank.shut[f] or bank.lines[f]:
            facilities[f] = (bank.shut[f], list(bank.lines[f]))
    storages = {}
    for s in range(64):
        told = (bank.rooms[s], bank.used[s], bank.closed[s])
        if told != (0, 0, 0):
            storages[s] = told
    return facilities, storages


def lines_after(*calls):
    return {f: line for f, (shut, line) in state_after(*calls)[0].items()}


def storage_after(s, *calls):
    return state_after(*calls)[1].get(s, (0, 0, 0))


def told_lists(answer):
    """The facilities' and the storages' list of what told answers."""
    length = answer[0]
    return answer[1:1 + length], answer[2 + length:]


class Checks:
    """Mixed into a test case."""

    def assert_changes_nothing(self, answer, setup, tried):
        """After setup, tried answers so, and the bank stays as it was."""
        self.assertEqual(last(*setup, tried), answer)
        self.assertEqual(state_after(*setup, tried), state_after(*setup))
