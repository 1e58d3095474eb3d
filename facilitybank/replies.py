"""The numbers that calls answer with."""

OUT_OF_RANGE = -1
BAD_LIST = -2
HOLDS = -3
IS_DISPLACED = -4
TOO_MANY_DISPLACED = -5
NOT_HOLDER = -6
OTHER_WAY = -7
TOO_MANY_UNITS = -8
NO_CALL = -9
STANDS_NOWHERE = -10

DONE = 0
NOT_NOW = 1
ROW_NOT_DONE = 2

HALTED = 0
FREED = 1
SENT_OFF = 2
TAKEN = 3


# Effects lie flat, two numbers each, so that those of several calls can be joined.
def done(effects):
    return [DONE, len(effects) // 2] + effects


def with_length(numbers):
    return [len(numbers)] + numbers


# What is kept by id is told by rising ids, two numbers each.
def told_by_id(numbers):
    answer = [len(numbers)]
    for x in sorted(numbers):
        answer.extend([x, numbers[x]])
    return answer
