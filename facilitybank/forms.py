"""The forms of the calls: which numbers and how many lists each of them has, and what lists are of."""

SEIZE = 0
PREEMPT = 1
RELEASE = 2
BACK = 3
GATE = 4
ALL_OF = 6
ONE = 7
ROOM = 8
ENTER = 9
LEAVE = 10
TOGETHER = 12
DRY = 13
ASK_HOLDER = 14
ASK_PLACE = 15
ASK_HALTED = 16
ASK_TOLD = 18
LOAD = 19
ASK_DEAD = 21
ASK_RING = 22
ASK_INHERIT = 23
ASK_IDLE = 25

# A letter for each kind of number, with the least and the greatest that is let.
RANGES = {
    "f": (0, 63),
    "s": (0, 63),
    "x": (1, 1000000000),
    "p": (-1000, 1000),
    "k": (0, 1),
    "n": (1, 1000000000),
    "r": (0, 1000000000),
    "e": (0, 1001),
}

# By place: the kinds of the numbers that stand behind it in the first row.
FORMS = {
    0: "fxp",
    1: "fxpkk",
    2: "fx",
    3: "fx",
    4: "fk",
    5: "x",
    6: "xp",
    7: "xp",
    8: "sr",
    9: "sn",
    10: "sn",
    11: "sk",
    12: "",
    13: "",
    14: "f",
    15: "x",
    16: "",
    17: "s",
    18: "",
    19: "",
    20: "",
    21: "",
    22: "",
    23: "",
    24: "s",
    25: "",
    26: "",
}

# By place: how many lists there are, where there are any.
LISTS = {6: 1, 7: 1, 19: 2, 21: 1, 22: 1, 23: 1, 24: 1}

ANY_COUNT_OF_LISTS = (12, 13)

# The calls that may be a row of together and dry.
ROW_PLACES = (0, 1, 2, 3, 4, 5, 8, 9, 10, 11)

QUESTIONS = (14, 15, 16, 17, 18, 21, 22, 23, 24, 25, 26)


def is_call(place, numbers, lists):
    if place not in FORMS or len(numbers) != len(FORMS[place]):
        return False
    return place in ANY_COUNT_OF_LISTS or len(lists) == LISTS.get(place, 0)


def is_row(row):
    return len(row) > 0 and row[0] in ROW_PLACES and len(row) - 1 == len(FORMS[row[0]])


def is_within(kind, number):
    bounds = RANGES[kind]
    return bounds[0] <= number <= bounds[1]


def are_of_kinds(kinds, numbers):
    return all([is_within(kind, number) for kind, number in zip(kinds, numbers)])


def are_in_range(place, numbers):
    return are_of_kinds(FORMS[place], numbers)


def is_list_of_facilities(numbers):
    if len(numbers) == 0 or len(set(numbers)) != len(numbers):
        return False
    return all([is_within("f", number) for number in numbers])


# A list of rows lies flat: the numbers of each row have the kinds, in their order.
def is_list_of_rows(kinds, numbers):
    if len(numbers) % len(kinds) != 0:
        return False
    return are_of_kinds(kinds * (len(numbers) // len(kinds)), numbers)


def rows_of(kinds, numbers):
    width = len(kinds)
    return [tuple(numbers[at:at + width]) for at in range(0, len(numbers), width)]


# Each row begins with an id.
def no_id_comes_twice(rows):
    return len(set([row[0] for row in rows])) == len(rows)


def are_rows_of_ids(kinds, most, numbers):
    if not is_list_of_rows(kinds, numbers):
        return False
    rows = rows_of(kinds, numbers)
    return len(rows) <= most and no_id_comes_twice(rows)
