"""The calls that are one row: those that may stand in together and dry."""

from facilitybank.facilities import back
from facilitybank.facilities import gate
from facilitybank.facilities import preempt
from facilitybank.facilities import purge
from facilitybank.facilities import release
from facilitybank.facilities import seize
from facilitybank.forms import BACK
from facilitybank.forms import ENTER
from facilitybank.forms import GATE
from facilitybank.forms import LEAVE
from facilitybank.forms import PREEMPT
from facilitybank.forms import RELEASE
from facilitybank.forms import ROOM
from facilitybank.forms import SEIZE
from facilitybank.storages import close
from facilitybank.storages import enter
from facilitybank.storages import leave
from facilitybank.storages import room


# Count and ranges of the numbers have been asked before.
def single_call(bank, place, numbers):
    if place < ROOM:
        return facility_call(bank, place, numbers)
    return storage_call(bank, place, numbers[0], numbers[1])


def facility_call(bank, place, numbers):
    if place == SEIZE:
        return seize(bank, numbers[0], numbers[1], numbers[2])
    if place == PREEMPT:
        return preempt(bank, numbers[0], numbers[1], numbers[2], numbers[3], numbers[4])
    if place == RELEASE:
        return release(bank, numbers[0], numbers[1])
    if place == BACK:
        return back(bank, numbers[0], numbers[1])
    if place == GATE:
        return gate(bank, numbers[0], numbers[1])
    return purge(bank, numbers[0])


def storage_call(bank, place, s, number):
    if place == ROOM:
        return room(bank, s, number)
    if place == ENTER:
        return enter(bank, s, number)
    if place == LEAVE:
        return leave(bank, s, number)
    return close(bank, s, number)
