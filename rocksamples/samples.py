"""A list of calls on a new object, and what they answer."""

from rocksamples.changes import carry_out
from rocksamples.store import Store

# By a call's number, what its arguments are called, in their order.
ARGUMENTS = {
    0: ("k", "mass", "p"),
    1: ("n", "k", "mass"),
    2: ("n", "mass"),
    3: ("n",),
    4: ("p",),
    5: ("n", "b"),
    6: ("n",),
    7: ("b", "o"),
    8: ("b",),
    9: ("b", "mark"),
    10: ("b", "mark"),
    11: ("n", "p", "q"),
    12: ("b", "p", "q"),
}

# By an argument's name, the least and the greatest that it may be.
RANGES = {
    "k": (0, 9999),
    "n": (0, 999999),
    "b": (1, 10),
    "o": (1, 10),
    "p": (0, 5),
    "q": (0, 5),
    "mass": (1, 1000000000),
    "mark": (1, 9999),
}


# Goes along a list of calls, which it only looks at.
class Reader:
    def __init__(self, numbers):
        self.numbers = numbers
        self.place = 0

    def at_end(self):
        return self.place >= len(self.numbers)

    def read_number(self):
        number = self.numbers[self.place]
        self.place += 1
        return number


def in_range(name, number):
    bounds = RANGES[name]
    return bounds[0] <= number <= bounds[1]


def piece_refusal(store, label):
    if label not in store.pieces:
        return -2
    if store.pieces[label].gone:
        return -3
    return 0


def box_refusal(store, number):
    if number not in store.boxes:
        return -2
    return 0


# 0 is none.
def named_refusal(store, name, number):
    if name == "n":
        return piece_refusal(store, number)
    if name in ("b", "o"):
        return box_refusal(store, number)
    return 0


# What's refused ahead of a call's own refusals: every range first, then what is named, in its order.
def common_refusal(store, names, given):
    for name in names:
        if not in_range(name, given[name]):
            return -1
    for name in names:
        refusal = named_refusal(store, name, given[name])
        if refusal != 0:
            return refusal
    return 0


# The whole call is read ahead of any refusal: the next one begins behind it.
def answer_next(store, reader):
    number = reader.read_number()
    names = ARGUMENTS[number]
    given = {}
    for name in names:
        given[name] = reader.read_number()
    refusal = common_refusal(store, names, given)
    if refusal != 0:
        return [refusal]
    return carry_out(store, number, given)


def answers(calls):
    store = Store()
    reader = Reader(calls)
    given_back = []
    while not reader.at_end():
        answer = answer_next(store, reader)
        given_back.append(len(answer))
        given_back.extend(answer)
    return given_back
