"""The calls that change facilities."""

from facilitybank.forms import is_list_of_facilities
from facilitybank.replies import BAD_LIST
from facilitybank.replies import FREED
from facilitybank.replies import HALTED
from facilitybank.replies import HOLDS
from facilitybank.replies import IS_DISPLACED
from facilitybank.replies import NOT_HOLDER
from facilitybank.replies import NOT_NOW
from facilitybank.replies import OTHER_WAY
from facilitybank.replies import SENT_OFF
from facilitybank.replies import STANDS_NOWHERE
from facilitybank.replies import TAKEN
from facilitybank.replies import TOO_MANY_DISPLACED
from facilitybank.replies import done
from facilitybank.state import PREEMPTED
from facilitybank.state import SEIZED

MOST_DISPLACED = 1000


def may_be_taken(bank, f):
    return bank.shut[f] == 0 and len(bank.lines[f]) == 0


def stands_in(line, x):
    return any([entry[0] == x for entry in line])


def holds(line, x):
    return len(line) > 0 and line[0][0] == x


# Gives an empty list where x doesn't stand at any of the facilities.
def refusal_of_standing(bank, x, places):
    for f in places:
        line = bank.lines[f]
        if holds(line, x):
            return [HOLDS]
        if stands_in(line, x):
            return [IS_DISPLACED]
    return []


def seize(bank, f, x, p):
    refusal = refusal_of_standing(bank, x, [f])
    if len(refusal) > 0:
        return refusal
    if not may_be_taken(bank, f):
        return [NOT_NOW]
    bank.lines[f] = [(x, SEIZED, p)]
    return done([])


def gives_way(entry, p, rule):
    if rule == 0:
        return entry[1] == SEIZED
    return entry[2] < p


def preempt(bank, f, x, p, rule, keep):
    refusal = refusal_of_standing(bank, x, [f])
    if len(refusal) > 0:
        return refusal
    if bank.shut[f] == 1:
        return [NOT_NOW]
    line = bank.lines[f]
    if len(line) == 0:
        bank.lines[f] = [(x, PREEMPTED, p)]
        return done([])
    if not gives_way(line[0], p, rule):
        return [NOT_NOW]
    return displace(bank, f, (x, PREEMPTED, p), keep)


def displace(bank, f, entry, keep):
    line = bank.lines[f]
    displaced = line[1:]
    if keep == 0:
        bank.lines[f] = [entry] + displaced
        return done([SENT_OFF, line[0][0]])
    if len(displaced) >= MOST_DISPLACED:
        return [TOO_MANY_DISPLACED]
    bank.lines[f] = [entry] + line
    return done([HALTED, line[0][0]])


def release(bank, f, x):
    return give_back(bank, f, x, SEIZED)


def back(bank, f, x):
    return give_back(bank, f, x, PREEMPTED)


def give_back(bank, f, x, way):
    line = bank.lines[f]
    if not holds(line, x):
        return [NOT_HOLDER]
    if line[0][1] != way:
        return [OTHER_WAY]
    return done(take_off(bank, f, x))


# Gives the effects: a new holder is freed only where x was the holder before.
def take_off(bank, f, x):
    line = bank.lines[f]
    rest = [entry for entry in line if entry[0] != x]
    bank.lines[f] = rest
    if holds(line, x) and len(rest) > 0:
        return [FREED, rest[0][0]]
    return []


def gate(bank, f, k):
    bank.shut[f] = k
    return done([])


def purge(bank, x):
    standing = [f for f, line in enumerate(bank.lines) if stands_in(line, x)]
    if len(standing) == 0:
        return [STANDS_NOWHERE]
    effects = []
    for f in standing:
        effects.extend(take_off(bank, f, x))
    return done(effects)


# Gives an empty list where nothing speaks against the list for x.
def refusal_of_list(bank, x, places):
    if not is_list_of_facilities(places):
        return [BAD_LIST]
    return refusal_of_standing(bank, x, places)


def all_of(bank, x, p, places):
    refusal = refusal_of_list(bank, x, places)
    if len(refusal) > 0:
        return refusal
    if not all([may_be_taken(bank, f) for f in places]):
        return [NOT_NOW]
    for f in places:
        bank.lines[f] = [(x, SEIZED, p)]
    return done([])


def one(bank, x, p, places):
    refusal = refusal_of_list(bank, x, places)
    if len(refusal) > 0:
        return refusal
    for f in places:
        if may_be_taken(bank, f):
            bank.lines[f] = [(x, SEIZED, p)]
            return done([TAKEN, f])
    return [NOT_NOW]
