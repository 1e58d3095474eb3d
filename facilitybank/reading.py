"""Parts the one list of numbers that is handed in into its calls."""


# Each call found is a tuple: its place, its numbers, its lists.
def read_calls(calls):
    found = []
    at = 0
    while at < len(calls):
        numbers = counted(calls, at + 1)
        lists_at = at + 2 + len(numbers)
        lists = counted_lists(calls, lists_at)
        found.append((calls[at], numbers, lists))
        at = lists_at + 1 + sum([1 + len(row) for row in lists])
    return found


def counted(calls, at):
    return calls[at + 1:at + 1 + calls[at]]


def counted_lists(calls, at):
    lists = []
    row_at = at + 1
    while len(lists) < calls[at]:
        row = counted(calls, row_at)
        lists.append(row)
        row_at = row_at + 1 + len(row)
    return lists
