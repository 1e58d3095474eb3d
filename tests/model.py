"""The document's sentences once more, written another way, to hold the program against.

A bank is a dict: ("f", number) to a tuple of shut and entries, ("s", number) to a
tuple of room, used and shut. Each call gives its answer and the bank behind it.
"""

import collections
import copy

NEW = {("f", f): (0, ()) for f in range(64)} | {("s", s): (0, 0, 0) for s in range(64)}

RANGES = {"f": range(64), "s": range(64), "x": range(1, 10**9 + 1), "p": range(-1000, 1001), "k": range(2),
          "n": range(1, 10**9 + 1), "r": range(10**9 + 1)}

FORMS = ["fxp", "fxpkk", "fx", "fx", "fk", "x", "xp", "xp", "sr", "sn", "sn", "sk", "", "",
         "f", "x", "", "s", "", "", "", "", "", "", "s", "", ""]

LISTS = {6: 1, 7: 1, 19: 2, 21: 1, 22: 1, 23: 1, 24: 1}


class Stop(Exception):
    """Ends a call with what it answers, the bank being as it was."""


def stop_if(condition, *answer):
    if condition:
        raise Stop(list(answer))


def stand(bank, f, x):
    ids = [entry[0] for entry in bank["f", f][1]]
    stop_if(ids[:1] == [x], -3)
    stop_if(x in ids, -4)


def seize(bank, f, x, p):
    stand(bank, f, x)
    stop_if(bank["f", f] != (0, ()), 1)
    bank["f", f] = (0, ((x, 0, p),))
    return []


def preempt(bank, f, x, p, rule, keep):
    stand(bank, f, x)
    shut, line = bank["f", f]
    stop_if(shut, 1)
    if not line:
        bank["f", f] = (0, ((x, 1, p),))
        return []
    h, way, priority = line[0]
    stop_if(not (priority < p if rule else way == 0), 1)
    stop_if(keep and len(line) == 1001, -5)
    bank["f", f] = (0, ((x, 1, p),) + (line if keep else line[1:]))
    return [(0 if keep else 2, h)]


def give(bank, f, x, way):
    shut, line = bank["f", f]
    stop_if(not line or line[0][0] != x, -6)
    stop_if(line[0][1] != way, -7)
    bank["f", f] = (shut, line[1:])
    return [(1, entry[0]) for entry in line[1:2]]


def gate(bank, f, k):
    bank["f", f] = (k, bank["f", f][1])
    return []


def purge(bank, x):
    effects = []
    found = False
    for f in range(64):
        shut, line = bank["f", f]
        ids = [entry[0] for entry in line]
        if x in ids:
            found = True
            at = ids.index(x)
            bank["f", f] = (shut, line[:at] + line[at + 1:])
            effects += [(1, ids[1])] if at == 0 and len(ids) > 1 else []
    stop_if(not found, -10)
    return effects


def listed(bank, x, places):
    stop_if(not places or not set(places) <= set(range(64)) or sorted(set(places)) != sorted(places), -2)
    for f in places:
        stand(bank, f, x)
    return [f for f in places if bank["f", f] == (0, ())]


def all_of(bank, x, p, places):
    stop_if(listed(bank, x, places) != places, 1)
    bank.update({("f", f): (0, ((x, 0, p),)) for f in places})
    return []


def one(bank, x, p, places):
    free = listed(bank, x, places)
    stop_if(not free, 1)
    bank["f", free[0]] = (0, ((x, 0, p),))
    return [(3, free[0])]


def room(bank, s, n):
    old, used, shut = bank["s", s]
    stop_if(used > n, -8)
    bank["s", s] = (n, used, shut)
    return []


def enter(bank, s, n):
    most, used, shut = bank["s", s]
    stop_if(n > most, -8)
    stop_if(shut or most - used < n, 1)
    bank["s", s] = (most, used + n, shut)
    return []


def leave(bank, s, n):
    most, used, shut = bank["s", s]
    stop_if(n > used, -8)
    bank["s", s] = (most, used - n, shut)
    return []


def close(bank, s, k):
    bank["s", s] = bank["s", s][:2] + (k,)
    return []


def together(bank, *rows):
    let = (0, 1, 2, 3, 4, 5, 8, 9, 10, 11)
    stop_if(len(rows) > 100, -2)
    stop_if(any(not row or row[0] not in let or len(row) != 1 + len(FORMS[row[0]]) for row in rows), -2)
    effects = []
    for before, row in enumerate(rows):
        try:
            effects += checked(bank, row[0], row[1:], [])
        except Stop as stopped:
            stop_if(True, 2, before, stopped.args[0][0])
    return effects


def dry(bank, *rows):
    return together(copy.copy(bank), *rows)


def holder(bank, f):
    shut, line = bank["f", f]
    return [shut, len(line)] + [number for entry in line for number in entry]


def ids_at(bank, f):
    return [entry[0] for entry in bank["f", f][1]]


def place(bank, x):
    where = {f: ids_at(bank, f).index(x) for f in range(64) if x in ids_at(bank, f)}
    held = [f for f, at in where.items() if at == 0]
    displaced = [f for f, at in where.items() if at > 0]
    return [len(held), *held, len(displaced), *displaced]


def halted(bank):
    times = collections.Counter(x for f in range(64) for x in ids_at(bank, f)[1:])
    return [len(times)] + [number for pair in sorted(times.items()) for number in pair]


def storage(bank, s):
    return list(bank["s", s])


def told(bank):
    facilities = [n for f in range(64) if bank["f", f] != (0, ()) for n in [f] + holder(bank, f)]
    storages = [n for s in range(64) if bank["s", s] != (0, 0, 0) for n in [s] + storage(bank, s)]
    return [len(facilities), *facilities, len(storages), *storages]


def load(bank, facilities, storages):
    """The bank told is brought about by calls, from the last entry of each line on; then it must be told so."""
    made = dict(NEW)
    left = list(facilities)
    while left:
        stop_if(len(left) < 3, -2)
        f, shut, size = left[:3]
        stop_if(size < 0 or len(left) < 3 + 3 * size, -2)
        entries = [left[at:at + 3] for at in range(3, 3 + 3 * size, 3)]
        left = left[3 + 3 * size:]
        bring_about(made, f, entries)
        do(made, 4, f, shut)
    stop_if(len(storages) % 4, -2)
    for at in range(0, len(storages), 4):
        s, most, used, shut = storages[at:at + 4]
        do(made, 8, s, most)
        if used:
            do(made, 9, s, used)
        do(made, 11, s, shut)
    stop_if(told(made) != [len(facilities), *facilities, len(storages), *storages], -2)
    bank.update(made)
    return []


def do(bank, place, *numbers):
    """Does a call that must be done."""
    try:
        checked(bank, place, numbers, [])
    except Stop:
        stop_if(True, -2)


def bring_about(bank, f, entries):
    for x, way, p in reversed(entries):
        if way == 0:
            do(bank, 0, f, x, p)
        else:
            line = bank.get(("f", f), (0, ()))[1]
            do(bank, 1, f, x, p, 0 if line and line[0][1] == 0 else 1, 1)


def clear(bank):
    bank.update(NEW)
    return []


def rows(numbers, kinds, most):
    width = len(kinds)
    parts = [numbers[at:at + width] for at in range(0, len(numbers), width)]
    stop_if(any(len(part) != width for part in parts) or len(parts) > most, -2)
    stop_if(any(number not in RANGES[kind] for part in parts for kind, number in zip(kinds, part)), -2)
    stop_if(len({part[0] for part in parts}) < len(parts), -2)
    return parts


def waits(bank, wishes):
    """All pairs of one that waits and one that it waits on."""
    pairs = {(x, y) for f in range(64) for y in ids_at(bank, f)[:1] for x in ids_at(bank, f)[1:]}
    return pairs | {(wish[0], y) for wish in wishes for y in ids_at(bank, wish[1])[:1]}


def dead_ids(pairs):
    ids = {x for pair in pairs for x in pair}
    while True:
        kept = {x for x, y in pairs if x in ids and y in ids}
        if kept == ids:
            return ids
        ids = kept


def dead(bank, wishes):
    found = dead_ids(waits(bank, rows(wishes, "xf", 1000)))
    return [len(found)] + sorted(found)


def ring(bank, wishes):
    pairs = waits(bank, rows(wishes, "xf", 1000))
    found = dead_ids(pairs)
    stop_if(not found, 0)
    path = [min(found)]
    while path[-1] not in path[:-1]:
        path.append(min(y for x, y in pairs if x == path[-1] and y in found))
    on_it = path[path.index(path[-1]):-1]
    return [len(on_it)] + on_it


def inherit(bank, wishes):
    wishes = rows(wishes, "xfp", 1000)
    pairs = waits(bank, wishes)
    own = {}
    for x, p in [(wish[0], wish[2]) for wish in wishes] + [(e[0], e[2]) for f in range(64) for e in bank["f", f][1]]:
        own.setdefault(x, []).append(p)
    best = {x: max(priorities) for x, priorities in own.items()}
    for number in range(len(best)):
        for x, y in pairs:
            best[y] = max(best[x], best[y])
    return [len(best)] + [number for pair in sorted(best.items()) for number in pair]


def safe(bank, s, claims):
    claims = rows(claims, "xrr", 100)
    stop_if(any(units > most for x, units, most in claims), -2)
    room_of_s, used, shut = bank["s", s]
    stop_if(sum(units for x, units, most in claims) > used, -8)
    ended = []
    while True:
        free = room_of_s - used + sum(units for x, units, most in claims if x in ended)
        able = [x for x, units, most in claims if x not in ended and most <= free + units]
        if not able:
            return [int(len(ended) < len(claims)), len(ended)] + ended
        ended.append(able[0])


def idle(bank):
    free = [f for f in range(64) if bank["f", f] == (0, ())]
    return [len(free)] + free


def counts(bank):
    sizes = [len(bank["f", f][1]) for f in range(64)]
    return [64 - sizes.count(0), sum(sizes) - 64 + sizes.count(0),
            sum(bank["s", s][0] for s in range(64)), sum(bank["s", s][1] for s in range(64))]


def question(ask):
    """A question's answer isn't a list of effects: it ends the call, the bank being as it was."""
    def asked(bank, *given):
        stop_if(True, *ask(bank, *given))
    return asked


DOERS = [seize, preempt, lambda bank, f, x: give(bank, f, x, 0), lambda bank, f, x: give(bank, f, x, 1), gate, purge,
         all_of, one, room, enter, leave, close, together, dry,
         question(holder), question(place), question(halted), question(storage), question(told), load, clear,
         question(dead), question(ring), question(inherit), question(safe), question(idle), question(counts)]


def checked(bank, place, numbers, lists):
    stop_if(place not in range(27) or len(numbers) != len(FORMS[place]), -9)
    stop_if(place not in (12, 13) and len(lists) != LISTS.get(place, 0), -9)
    stop_if(any(number not in RANGES[kind] for kind, number in zip(FORMS[place], numbers)), -1)
    return DOERS[place](bank, *numbers, *lists)


def answer(bank, place, numbers, lists):
    """The answer, and the bank behind the call."""
    trial = copy.copy(bank)
    try:
        effects = checked(trial, place, numbers, lists)
    except Stop as stopped:
        return stopped.args[0], bank
    return [0, len(effects)] + [number for effect in effects for number in effect], trial
