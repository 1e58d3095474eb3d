"""The calls that are questions: they change nothing."""

from facilitybank.claims import safe
from facilitybank.forms import ASK_DEAD
from facilitybank.forms import ASK_HALTED
from facilitybank.forms import ASK_HOLDER
from facilitybank.forms import ASK_IDLE
from facilitybank.forms import ASK_INHERIT
from facilitybank.forms import ASK_PLACE
from facilitybank.forms import ASK_RING
from facilitybank.forms import ASK_TOLD
from facilitybank.looks import counts
from facilitybank.looks import halted
from facilitybank.looks import holder
from facilitybank.looks import idle
from facilitybank.looks import place_of
from facilitybank.looks import storage
from facilitybank.looks import told
from facilitybank.waits import dead
from facilitybank.waits import inherit
from facilitybank.waits import ring


# Form and ranges have been asked before.
def question(bank, place, numbers, lists):
    if len(lists) > 0:
        return question_with_list(bank, place, numbers, lists[0])
    if len(numbers) > 0:
        return question_with_number(bank, place, numbers[0])
    return question_of_the_whole(bank, place)


def question_with_list(bank, place, numbers, row):
    if place == ASK_DEAD:
        return dead(bank, row)
    if place == ASK_RING:
        return ring(bank, row)
    if place == ASK_INHERIT:
        return inherit(bank, row)
    return safe(bank, numbers[0], row)


def question_with_number(bank, place, number):
    if place == ASK_HOLDER:
        return holder(bank, number)
    if place == ASK_PLACE:
        return place_of(bank, number)
    return storage(bank, number)


def question_of_the_whole(bank, place):
    if place == ASK_HALTED:
        return halted(bank)
    if place == ASK_TOLD:
        return told(bank)
    if place == ASK_IDLE:
        return idle(bank)
    return counts(bank)
