"""The questions of who waits on whom: dead, ring and inherit."""

from facilitybank.forms import are_rows_of_ids
from facilitybank.forms import rows_of
from facilitybank.replies import BAD_LIST
from facilitybank.replies import told_by_id
from facilitybank.replies import with_length

WISH = "xf"
WISH_WITH_PRIORITY = "xfp"
MOST_WISHES = 1000


def dead(bank, numbers):
    if not are_rows_of_ids(WISH, MOST_WISHES, numbers):
        return [BAD_LIST]
    return with_length(find_dead(waits_of(bank, rows_of(WISH, numbers))))


def ring(bank, numbers):
    if not are_rows_of_ids(WISH, MOST_WISHES, numbers):
        return [BAD_LIST]
    waits = waits_of(bank, rows_of(WISH, numbers))
    return with_length(find_ring(waits, find_dead(waits)))


def inherit(bank, numbers):
    if not are_rows_of_ids(WISH_WITH_PRIORITY, MOST_WISHES, numbers):
        return [BAD_LIST]
    wishes = rows_of(WISH_WITH_PRIORITY, numbers)
    return told_by_id(find_inherited(waits_of(bank, wishes), own_priorities(bank, wishes)))


# By id, of those that wait alone: a dict whose keys are the ids it waits on,
# so that one comes once, for however many reasons it is waited on.
def waits_of(bank, wishes):
    waits = {}
    for line in bank.lines:
        for entry in line[1:]:
            note_wait(waits, entry[0], line[0][0])
    for wish in wishes:
        line = bank.lines[wish[1]]
        if len(line) > 0:
            note_wait(waits, wish[0], line[0][0])
    return waits


def note_wait(waits, x, other):
    others = waits.setdefault(x, {})
    others[other] = True


def waiters_of(waits):
    waiters = {}
    for x, others in waits.items():
        for other in others:
            note_wait(waiters, other, x)
    return waiters


# Those that wait on nobody aren't dead, nor are those that wait on such alone,
# and so on: what is left is the greatest set. Each wait is looked at once.
def find_dead(waits):
    waiters = waiters_of(waits)
    left = {}
    for x, others in waits.items():
        left[x] = len(others)
    alive = [x for x in waiters if x not in waits]
    at = 0
    while at < len(alive):
        behind = waiters.get(alive[at], {})
        for x in behind:
            left[x] = left[x] - 1
            if left[x] == 0:
                alive.append(x)
        at = at + 1
    return sorted([x for x in left if left[x] > 0])


def find_ring(waits, dead_ids):
    if len(dead_ids) == 0:
        return []
    among = {}
    for x in dead_ids:
        among[x] = True
    came = {}
    x = dead_ids[0]
    while x not in came:
        came[x] = len(came)
        x = min([other for other in waits[x] if other in among])
    # A dict keeps the order in which keys came.
    return list(came)[came[x]:]


def own_priorities(bank, wishes):
    own = {}
    for line in bank.lines:
        for entry in line:
            raise_to(own, entry[0], entry[2])
    for wish in wishes:
        raise_to(own, wish[0], wish[2])
    return own


def raise_to(own, x, p):
    own[x] = max(p, own.get(x, p))


# The greatest goes first: whoever is reached then can't get a greater one later,
# so nobody is gone through twice.
def find_inherited(waits, own):
    found = {}
    for opposite, x in sorted([(-p, x) for x, p in own.items()]):
        pass_on(waits, found, x, -opposite)
    return found


def pass_on(waits, found, x, p):
    reached = [x]
    while len(reached) > 0:
        other = reached.pop()
        if other not in found:
            found[other] = p
            reached.extend(list(waits.get(other, {})))
