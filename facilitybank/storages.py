"""The calls that change storages."""

from facilitybank.replies import NOT_NOW
from facilitybank.replies import TOO_MANY_UNITS
from facilitybank.replies import done


def room(bank, s, n):
    if bank.used[s] > n:
        return [TOO_MANY_UNITS]
    bank.rooms[s] = n
    return done([])


def enter(bank, s, n):
    if n > bank.rooms[s]:
        return [TOO_MANY_UNITS]
    if bank.closed[s] == 1 or bank.used[s] + n > bank.rooms[s]:
        return [NOT_NOW]
    bank.used[s] = bank.used[s] + n
    return done([])


def leave(bank, s, n):
    if n > bank.used[s]:
        return [TOO_MANY_UNITS]
    bank.used[s] = bank.used[s] - n
    return done([])


def close(bank, s, k):
    bank.closed[s] = k
    return done([])
