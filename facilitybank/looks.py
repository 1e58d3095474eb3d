"""The questions that look at what a bank holds."""

from facilitybank.facilities import holds
from facilitybank.facilities import may_be_taken
from facilitybank.facilities import stands_in
from facilitybank.replies import told_by_id
from facilitybank.replies import with_length
from facilitybank.state import FACILITIES
from facilitybank.state import STORAGES


def holder(bank, f):
    line = bank.lines[f]
    answer = [bank.shut[f], len(line)]
    for entry in line:
        answer.extend(list(entry))
    return answer


def place_of(bank, x):
    held = [f for f, line in enumerate(bank.lines) if holds(line, x)]
    displaced = [f for f, line in enumerate(bank.lines) if stands_in(line[1:], x)]
    return with_length(held) + with_length(displaced)


# An id stands at most once in a line, so its entries are as many as the facilities.
def halted(bank):
    times = {}
    for line in bank.lines:
        for entry in line[1:]:
            times[entry[0]] = times.get(entry[0], 0) + 1
    return told_by_id(times)


def storage(bank, s):
    return [bank.rooms[s], bank.used[s], bank.closed[s]]


def told(bank):
    return with_length(told_facilities(bank)) + with_length(told_storages(bank))


def told_facilities(bank):
    numbers = []
    for f in range(FACILITIES):
        if not may_be_taken(bank, f):
            numbers.append(f)
            numbers.extend(holder(bank, f))
    return numbers


def told_storages(bank):
    numbers = []
    for s in range(STORAGES):
        if bank.closed[s] == 1 or bank.rooms[s] > 0:
            numbers.append(s)
            numbers.extend(storage(bank, s))
    return numbers


def idle(bank):
    return with_length([f for f in range(FACILITIES) if may_be_taken(bank, f)])


def counts(bank):
    held = [line for line in bank.lines if len(line) > 0]
    displaced = sum([len(line) - 1 for line in held])
    return [len(held), displaced, sum(bank.rooms), sum(bank.used)]
