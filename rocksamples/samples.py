"""A list of calls on a new object, and what they answer."""

from rocksamples.changes import carry_out
from rocksamples.store import Store
from rocksamples.tellings import tell

# By a call's number, what its arguments are called, in their order.
ARGUMENTS = {
    0: ("k", "mass", "p"),
    1: ("n", "k", "mass"),
    2: ("n", "mass"),
    3: ("n",),
    4: ("p",),
    5: ("n", "b"),
    6: ("n",),
    7: ("b", "o"),
    8: ("b",),
    9: ("b", "mark"),
    10: ("b", "mark"),
    11: ("n", "p", "q"),
    12: ("b", "p", "q"),
    13: ("b", "kept"),
    14: ("minutes",),
    15: ("n",),
    16: ("b",),
    17: ("b",),
    18: ("n",),
    19: ("text",),
    20: ("b", "text"),
    21: ("b", "text"),
    22: ("b", "text"),
    23: ("n",),
    24: ("least",),
    25: ("k",),
}

# The calls below this number change the object, the others only tell of it.
FIRST_TELLING = 15

# These tell of a piece that's gone, too.
OF_GONE_PIECES = (15, 18, 23)

# By an argument's name, the least and the greatest that it may be.
RANGES = {
    "k": (0, 9999),
    "n": (0, 999999),
    "b": (1, 10),
    "o": (1, 10),
    "p": (0, 5),
    "q": (0, 5),
    "mass": (1, 1000000000),
    "mark": (1, 9999),
    "kept": (0, 1),
    "minutes": (1, 100000),
    "least": (0, 1000000000),
}

MOST_BYTES = 60
GREATEST_BYTE = 255


# Goes along a list of calls, which it only looks at.
class Reader:
    def __init__(self, numbers):
        self.numbers = numbers
        self.place = 0

    def at_end(self):
        return self.place >= len(self.numbers)

    def read_number(self):
        number = self.numbers[self.place]
        self.place += 1
        return number

    # A text stands behind how many numbers it has.
    def read_text(self):
        length = self.read_number()
        return [self.read_number() for turn in range(length)]

    def read_argument(self, name):
        if name == "text":
            return self.read_text()
        return self.read_number()


def is_text(numbers):
    if len(numbers) > MOST_BYTES:
        return False
    return all([0 <= number <= GREATEST_BYTE for number in numbers])


def in_range(name, value):
    if name == "text":
        return is_text(value)
    bounds = RANGES[name]
    return bounds[0] <= value <= bounds[1]


def piece_refusal(store, call, label):
    if label not in store.pieces:
        return -2
    if store.pieces[label].gone and call not in OF_GONE_PIECES:
        return -3
    return 0


def box_refusal(store, number):
    if number not in store.boxes:
        return -2
    return 0


# 0 is none.
def named_refusal(store, call, name, value):
    if name == "n":
        return piece_refusal(store, call, value)
    if name in ("b", "o"):
        return box_refusal(store, value)
    return 0


# What's refused ahead of a call's own refusals: every range first, then what is named, in its order.
def common_refusal(store, call, given):
    for name, value in given.items():
        if not in_range(name, value):
            return -1
    for name, value in given.items():
        refusal = named_refusal(store, call, name, value)
        if refusal != 0:
            return refusal
    return 0


# The whole call is read ahead of any refusal: the next one begins behind it.
def answer_next(store, reader):
    call = reader.read_number()
    given = {}
    for name in ARGUMENTS[call]:
        given[name] = reader.read_argument(name)
    refusal = common_refusal(store, call, given)
    if refusal != 0:
        return [refusal]
    if call < FIRST_TELLING:
        return carry_out(store, call, given)
    return tell(store, call, given)


def answers(calls):
    store = Store()
    reader = Reader(calls)
    given_back = []
    while not reader.at_end():
        answer = answer_next(store, reader)
        given_back.append(len(answer))
        given_back.extend(answer)
    return given_back
