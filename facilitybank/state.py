"""What a bank holds: its facilities and its storages."""

FACILITIES = 64
STORAGES = 64

SEIZED = 0
PREEMPTED = 1


class Bank:
    # An entry of a line is a tuple: id, way, priority. No line is changed in
    # place, a changed one is put in its stead: so banks may share lines.
    def __init__(self):
        self.shut = [0] * FACILITIES
        self.lines = [[] for f in range(FACILITIES)]
        self.rooms = [0] * STORAGES
        self.used = [0] * STORAGES
        self.closed = [0] * STORAGES


def put_into(bank, source):
    bank.shut = list(source.shut)
    bank.lines = list(source.lines)
    bank.rooms = list(source.rooms)
    bank.used = list(source.used)
    bank.closed = list(source.closed)


def copy_of(bank):
    twin = Bank()
    put_into(twin, bank)
    return twin
