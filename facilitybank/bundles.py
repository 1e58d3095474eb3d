"""The calls that do many rows or none: together and dry."""

from facilitybank.forms import are_in_range
from facilitybank.forms import is_row
from facilitybank.replies import BAD_LIST
from facilitybank.replies import DONE
from facilitybank.replies import OUT_OF_RANGE
from facilitybank.replies import ROW_NOT_DONE
from facilitybank.replies import done
from facilitybank.single import single_call
from facilitybank.state import copy_of
from facilitybank.state import put_into

MOST_ROWS = 100


def together(bank, rows):
    if len(rows) > MOST_ROWS or not all([is_row(row) for row in rows]):
        return [BAD_LIST]
    # The rows are tried on a copy, so that one that isn't done leaves no trace.
    trial = copy_of(bank)
    answer = do_rows(trial, rows)
    if answer[0] == DONE:
        put_into(bank, trial)
    return answer


def dry(bank, rows):
    return together(copy_of(bank), rows)


def do_rows(bank, rows):
    effects = []
    for before, row in enumerate(rows):
        answer = do_row(bank, row[0], row[1:])
        if answer[0] != DONE:
            return [ROW_NOT_DONE, before, answer[0]]
        effects.extend(answer[2:])
    return done(effects)


def do_row(bank, place, numbers):
    if not are_in_range(place, numbers):
        return [OUT_OF_RANGE]
    return single_call(bank, place, numbers)
