"""The way in: calls on one bank, handed in as one list of numbers."""

from facilitybank.asking import question
from facilitybank.bundles import dry
from facilitybank.bundles import together
from facilitybank.facilities import all_of
from facilitybank.facilities import one
from facilitybank.forms import ALL_OF
from facilitybank.forms import DRY
from facilitybank.forms import LOAD
from facilitybank.forms import ONE
from facilitybank.forms import QUESTIONS
from facilitybank.forms import ROW_PLACES
from facilitybank.forms import TOGETHER
from facilitybank.forms import are_in_range
from facilitybank.forms import is_call
from facilitybank.loading import clear
from facilitybank.loading import load
from facilitybank.reading import read_calls
from facilitybank.replies import NO_CALL
from facilitybank.replies import OUT_OF_RANGE
from facilitybank.single import single_call
from facilitybank.state import Bank


def answers(calls):
    bank = Bank()
    answered = []
    for place, numbers, lists in read_calls(calls):
        answer = answer_of(bank, place, numbers, lists)
        answered.append(len(answer))
        answered.extend(answer)
    return answered


def answer_of(bank, place, numbers, lists):
    if not is_call(place, numbers, lists):
        return [NO_CALL]
    if not are_in_range(place, numbers):
        return [OUT_OF_RANGE]
    if place in ROW_PLACES:
        return single_call(bank, place, numbers)
    if place in QUESTIONS:
        return question(bank, place, numbers, lists)
    return wide_call(bank, place, numbers, lists)


# The calls that change more than a row can: they can't stand in together and dry.
def wide_call(bank, place, numbers, lists):
    if place == ALL_OF:
        return all_of(bank, numbers[0], numbers[1], lists[0])
    if place == ONE:
        return one(bank, numbers[0], numbers[1], lists[0])
    if place == TOGETHER:
        return together(bank, lists)
    if place == DRY:
        return dry(bank, lists)
    if place == LOAD:
        return load(bank, lists[0], lists[1])
    return clear(bank)
