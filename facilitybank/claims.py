"""The question whether all claims on a storage can be met one after the other."""

from facilitybank.forms import are_rows_of_ids
from facilitybank.forms import rows_of
from facilitybank.replies import BAD_LIST
from facilitybank.replies import TOO_MANY_UNITS
from facilitybank.replies import with_length

# Id, units that it has, the most that it will need.
CLAIM = "xrr"
MOST_CLAIMS = 100


def safe(bank, s, numbers):
    if not are_claims(numbers):
        return [BAD_LIST]
    claims = rows_of(CLAIM, numbers)
    if sum([claim[1] for claim in claims]) > bank.used[s]:
        return [TOO_MANY_UNITS]
    ended = end_claims(claims, bank.rooms[s] - bank.used[s])
    not_all = 0 if len(ended) == len(claims) else 1
    return [not_all] + with_length(ended)


def are_claims(numbers):
    if not are_rows_of_ids(CLAIM, MOST_CLAIMS, numbers):
        return False
    return all([claim[1] <= claim[2] for claim in rows_of(CLAIM, numbers)])


# Gives the ids of those that end, in the order in which they do.
def end_claims(claims, free):
    ended = []
    left = list(claims)
    at = first_to_end(left, free)
    while at < len(left):
        claim = left.pop(at)
        ended.append(claim[0])
        free = free + claim[1]
        at = first_to_end(left, free)
    return ended


# Gives the number of claims where none can end.
def first_to_end(claims, free):
    for at, claim in enumerate(claims):
        if claim[2] <= free + claim[1]:
            return at
    return len(claims)
