"""The calls that put another bank in the place of the one that is there: load and clear."""

from facilitybank.forms import are_of_kinds
from facilitybank.forms import is_list_of_rows
from facilitybank.forms import no_id_comes_twice
from facilitybank.forms import rows_of
from facilitybank.replies import BAD_LIST
from facilitybank.replies import done
from facilitybank.state import Bank
from facilitybank.state import PREEMPTED
from facilitybank.state import SEIZED
from facilitybank.state import put_into

# Facility, shut or open, number of entries.
HEAD = "fke"
ENTRY = "xkp"
STORAGE = "srrk"


def clear(bank):
    put_into(bank, Bank())
    return done([])


def load(bank, facilities, storages):
    # A new bank is filled, so that a list that is refused halfway leaves no trace.
    loaded = Bank()
    if not fill_facilities(loaded, facilities) or not fill_storages(loaded, storages):
        return [BAD_LIST]
    put_into(bank, loaded)
    return done([])


# Tells whether the numbers are of the form; the bank is of use only if they are.
def fill_facilities(bank, numbers):
    before = -1
    at = 0
    while at < len(numbers):
        head = numbers[at:at + len(HEAD)]
        if not is_head(head, before):
            return False
        before = head[0]
        line_at = at + len(HEAD)
        at = line_at + len(ENTRY) * head[2]
        if at > len(numbers) or not is_list_of_rows(ENTRY, numbers[line_at:at]):
            return False
        line = rows_of(ENTRY, numbers[line_at:at])
        if not is_line(line):
            return False
        bank.shut[before] = head[1]
        bank.lines[before] = line
    return True


def is_head(head, before):
    if len(head) != len(HEAD) or not are_of_kinds(HEAD, head):
        return False
    as_in_a_new_bank = head[1] == 0 and head[2] == 0
    return head[0] > before and not as_in_a_new_bank


def is_line(line):
    return no_id_comes_twice(line) and all([may_stand_before(a, b) for a, b in zip(line, line[1:])])


def may_stand_before(entry, displaced):
    return entry[1] == PREEMPTED and (displaced[1] == SEIZED or displaced[2] < entry[2])


def fill_storages(bank, numbers):
    if not is_list_of_rows(STORAGE, numbers):
        return False
    before = -1
    for s, room, used, closed in rows_of(STORAGE, numbers):
        as_in_a_new_bank = closed == 0 and room == 0
        if s <= before or used > room or as_in_a_new_bank:
            return False
        before = s
        bank.rooms[s] = room
        bank.used[s] = used
        bank.closed[s] = closed
    return True
