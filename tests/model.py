"""The document's sentences once more, written another way, to hold the program against.

A bank is a dict: ("f", number) to a tuple of shut and entries, ("s", number) to a
tuple of room, used and shut. Each call gives its answer and the bank behind it.
"""

import copy

NEW = {("f", f): (0, ()) for f in range(64)} | {("s", s): (0, 0, 0) for s in range(64)}

RANGES = {"f": range(64), "s": range(64), "x": range(1, 10**9 + 1), "p": range(-1000, 1001), "k": range(2),
          "n": range(1, 10**9 + 1), "r": range(10**9 + 1)}

FORMS = ["fxp", "fxpkk", "fx", "fx", "fk", "x", "xp", "xp", "sr", "sn", "sn", "sk", "", ""]


class Stop(Exception):
    """Ends a call with what it answers, the bank being as it was."""


def stop_if(condition, *answer):
    if condition:
        raise Stop(list(answer))


def stand(bank, f, x):
    ids = [entry[0] for entry in bank["f", f][1]]
    stop_if(ids[:1] == [x], -3)
    stop_if(x in ids, -4)


def seize(bank, f, x, p):
    stand(bank, f, x)
    stop_if(bank["f", f] != (0, ()), 1)
    bank["f", f] = (0, ((x, 0, p),))
    return []


def preempt(bank, f, x, p, rule, keep):
    stand(bank, f, x)
    shut, line = bank["f", f]
    stop_if(shut, 1)
    if not line:
        bank["f", f] = (0, ((x, 1, p),))
        return []
    h, way, priority = line[0]
    stop_if(not (priority < p if rule else way == 0), 1)
    stop_if(keep and len(line) == 1001, -5)
    bank["f", f] = (0, ((x, 1, p),) + (line if keep else line[1:]))
    return [(0 if keep else 2, h)]


def give(bank, f, x, way):
    shut, line = bank["f", f]
    stop_if(not line or line[0][0] != x, -6)
    stop_if(line[0][1] != way, -7)
    bank["f", f] = (shut, line[1:])
    return [(1, entry[0]) for entry in line[1:2]]


def gate(bank, f, k):
    bank["f", f] = (k, bank["f", f][1])
    return []


def purge(bank, x):
    effects = []
    found = False
    for f in range(64):
        shut, line = bank["f", f]
        ids = [entry[0] for entry in line]
        if x in ids:
            found = True
            at = ids.index(x)
            bank["f", f] = (shut, line[:at] + line[at + 1:])
            effects += [(1, ids[1])] if at == 0 and len(ids) > 1 else []
    stop_if(not found, -10)
    return effects


def listed(bank, x, places):
    stop_if(not places or not set(places) <= set(range(64)) or sorted(set(places)) != sorted(places), -2)
    for f in places:
        stand(bank, f, x)
    return [f for f in places if bank["f", f] == (0, ())]


def all_of(bank, x, p, places):
    stop_if(listed(bank, x, places) != places, 1)
    bank.update({("f", f): (0, ((x, 0, p),)) for f in places})
    return []


def one(bank, x, p, places):
    free = listed(bank, x, places)
    stop_if(not free, 1)
    bank["f", free[0]] = (0, ((x, 0, p),))
    return [(3, free[0])]


def room(bank, s, n):
    old, used, shut = bank["s", s]
    stop_if(used > n, -8)
    bank["s", s] = (n, used, shut)
    return []


def enter(bank, s, n):
    most, used, shut = bank["s", s]
    stop_if(n > most, -8)
    stop_if(shut or most - used < n, 1)
    bank["s", s] = (most, used + n, shut)
    return []


def leave(bank, s, n):
    most, used, shut = bank["s", s]
    stop_if(n > used, -8)
    bank["s", s] = (most, used - n, shut)
    return []


def close(bank, s, k):
    bank["s", s] = bank["s", s][:2] + (k,)
    return []


def together(bank, *rows):
    let = (0, 1, 2, 3, 4, 5, 8, 9, 10, 11)
    stop_if(len(rows) > 100, -2)
    stop_if(any(not row or row[0] not in let or len(row) != 1 + len(FORMS[row[0]]) for row in rows), -2)
    effects = []
    for before, row in enumerate(rows):
        try:
            effects += checked(bank, row[0], row[1:], [])
        except Stop as stopped:
            stop_if(True, 2, before, stopped.args[0][0])
    return effects


def dry(bank, *rows):
    return together(copy.copy(bank), *rows)


DOERS = [seize, preempt, lambda bank, f, x: give(bank, f, x, 0), lambda bank, f, x: give(bank, f, x, 1), gate, purge,
         all_of, one, room, enter, leave, close, together, dry]


def checked(bank, place, numbers, lists):
    stop_if(place not in range(14) or len(numbers) != len(FORMS[place]), -9)
    stop_if(place < 12 and len(lists) != (place in (6, 7)), -9)
    stop_if(any(number not in RANGES[kind] for kind, number in zip(FORMS[place], numbers)), -1)
    return DOERS[place](bank, *numbers, *lists)


def answer(bank, place, numbers, lists):
    """The answer, and the bank behind the call."""
    trial = copy.copy(bank)
    try:
        effects = checked(trial, place, numbers, lists)
    except Stop as stopped:
        return stopped.args[0], bank
    return [0, len(effects)] + [number for effect in effects for number in effect], trial
