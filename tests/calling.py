"""What the tests share: a line of calls by their names, looked at from all sides as it grows; calls that are good
and arguments that aren't; and a plain search through all matchings."""

import copy
import re
import unittest

from rocksamples.samples import Reader, answer_next, answers
from rocksamples.store import Store

NUMBERS = {
    "sample": 0, "split": 1, "use": 2, "lose": 3, "box": 4, "put": 5, "take": 6, "nest": 7,
    "unnest": 8, "seal": 9, "open": 10, "hand": 11, "handbox": 12, "frost": 13, "pass": 14,
    "piece": 15, "told": 16, "manifest": 17, "sums": 18, "read": 19, "best": 20, "sure": 21,
    "cover": 22, "chain": 23, "warm": 24, "label": 25,
}

# Those that change nothing.
TELLING = tuple(name for name, number in NUMBERS.items() if number >= 15)

LEAST = -9223372036854775808
GREATEST = 9223372036854775807

# What each argument may be; a label outside 0 to 999999 is out of its range, any other only not there.
RANGES = {
    "k": (0, 9999), "n": (0, 999999), "b": (1, 10), "o": (1, 10), "p": (0, 5), "q": (0, 5),
    "mass": (1, 1000000000), "mark": (1, 9999), "kept": (0, 1), "minutes": (1, 100000), "least": (0, 1000000000),
}

# A call of each kind that isn't refused on the object of made_ready().
GOOD_CALLS = {
    "sample": (("k", 7), ("mass", 5), ("p", 2)),
    "split": (("n", 195), ("k", 7), ("mass", 5)),
    "use": (("n", 195), ("mass", 5)),
    "lose": (("n", 195),),
    "box": (("p", 2),),
    "put": (("n", 195), ("b", 1)),
    "take": (("n", 292),),
    "nest": (("b", 3), ("o", 1)),
    "unnest": (("b", 2),),
    "seal": (("b", 1), ("mark", 5)),
    "open": (("b", 4), ("mark", 5)),
    "hand": (("n", 195), ("p", 3), ("q", 2)),
    "handbox": (("b", 1), ("p", 3), ("q", 2)),
    "frost": (("b", 1), ("kept", 1)),
    "pass": (("minutes", 5),),
    "piece": (("n", 195),),
    "told": (("b", 1),),
    "manifest": (("b", 1),),
    "sums": (("n", 195),),
    "read": (("text", "000?9?"),),
    "best": (("b", 1), ("text", "000?9?")),
    "sure": (("b", 1), ("text", "000?9?")),
    "cover": (("b", 1), ("text", "000?9?")),
    "chain": (("n", 195),),
    "warm": (("least", 5),),
    "label": (("k", 7),),
}


def as_numbers(argument):
    """A text goes in as how many numbers it has, then they."""
    if isinstance(argument, str):
        argument = list(argument.encode("latin-1"))
    if isinstance(argument, list):
        return [len(argument), *argument]
    return [argument]


def as_call(name, *arguments):
    call = [NUMBERS[name]]
    for argument in arguments:
        call += as_numbers(argument)
    return call


def made_ready():
    """A loose piece 195, a piece 292 in box 1, box 2 in box 1, a loose box 3, a sealed box 4, a gone piece 389."""
    calls = []
    for k in (1, 2, 3):
        calls += as_call("sample", k, 100, 3)
    for number in range(4):
        calls += as_call("box", 3)
    calls += as_call("put", 292, 1)
    calls += as_call("nest", 2, 1)
    calls += as_call("seal", 4, 5)
    calls += as_call("lose", 389)
    return calls


def wrong_values(argument):
    if argument == "text":
        wrong = [[63] * length for length in (61, 62, 96, 97)]
        for number in (-1, 256, 257, LEAST, LEAST + 1, GREATEST, GREATEST - 1, 2 ** 32 + 63, 63 - 2 ** 32):
            wrong += [[number], [63] * 5 + [number], [number] + [63] * 59, [63] * 59 + [number], [number] * 97]
        return wrong
    least, greatest = RANGES[argument]
    return [least - 1, greatest + 1, -1, -1000000, LEAST, LEAST + 1, GREATEST, GREATEST - 1, 2 ** 32 + 1, -2 ** 32]


def right_ends(argument):
    """The edges of what is in range, though it may be refused for something else."""
    if argument == "text":
        return [[], [0], [255], [63] * 60, [0] * 60, [255] * 60]
    return list(RANGES[argument])


def picture(store):
    """All that the object keeps, as plain values of their own."""
    kept = dict(vars(store))
    kept["pieces"] = {label: dict(vars(piece)) for label, piece in store.pieces.items()}
    kept["boxes"] = {number: dict(vars(box)) for number, box in store.boxes.items()}
    return copy.deepcopy(kept)


def told_apart(given_back):
    """The answers, each a list, out of the one list that's given back."""
    told = []
    place = 0
    while place < len(given_back):
        end = place + 1 + given_back[place]
        told.append(given_back[place + 1:end])
        place = end
    return told


def last_answer(calls):
    return told_apart(answers(calls))[-1]


def is_refusal(name, answer):
    """piece may tell -1 as its first number, with others behind it."""
    return answer[0] < 0 and not (name == "piece" and len(answer) == 9)


def plain_patterns(text):
    """The patterns that a text's numbers are, or none."""
    if not re.fullmatch(rb"[0-9?]{6}( [0-9?]{6})*", bytes(text)):
        return None
    return bytes(text).decode().split(" ")


def plain_fits(label, pattern):
    return re.fullmatch(pattern.replace("?", "."), f"{label:06d}") is not None


def all_matchings(patterns, expected):
    """Each as a tuple of the expected labels, or 0, by the found ones."""
    matchings = [()]
    for pattern in patterns:
        longer = []
        for matching in matchings:
            longer.append(matching + (0,))
            longer += [matching + (label,) for label in expected
                       if label not in matching and plain_fits(label, pattern)]
        matchings = longer
    return matchings


def size(matching):
    return sum(label != 0 for label in matching)


def best_ones(patterns, expected):
    matchings = all_matchings(patterns, expected)
    most = max(map(size, matchings))
    return [matching for matching in matchings if size(matching) == most]


def with_count(numbers):
    return [len(numbers), *numbers]


def plain_best(patterns, expected):
    first = min(best_ones(patterns, expected), key=lambda matching: [label or 1000000 for label in matching])
    return [size(first)] + with_count(first)


def plain_sure(patterns, expected):
    ones = best_ones(patterns, expected)
    columns = [{one[place] for one in ones} for place in range(len(patterns))]
    return (
        with_count([min(column) if len(column) == 1 else 0 for column in columns])
        + with_count([label for label in expected if all(label in one for one in ones)])
        + with_count([label for label in expected if not any(label in one for one in ones)])
        + with_count([place for place, column in enumerate(columns) if column == {0}]))


def plain_cover_of(patterns, expected, matching):
    found = {place for place, label in enumerate(matching) if label == 0}
    labels = set()
    before = -1
    while before != len(found) + len(labels):
        before = len(found) + len(labels)
        labels |= {label for label in expected for place in found if plain_fits(label, patterns[place])}
        found |= {place for place, label in enumerate(matching) if label in labels}
    return (with_count([place for place in range(len(patterns)) if place not in found])
            + with_count([label for label in expected if label in labels]))


def plain_cover(patterns, expected):
    """With each best matching the same is to come out."""
    covers = {tuple(plain_cover_of(patterns, expected, one)) for one in best_ones(patterns, expected)}
    (cover,) = covers
    return list(cover)


class LineTest(unittest.TestCase):
    """Every refusal in a test is looked at for leaving the object as it was, and so is every call that only tells;
    at a test's end the whole line goes through answers(), which must say the same, twice, and change nothing."""

    def setUp(self):
        self.store = Store()
        self.calls = []
        self.told = []

    def tearDown(self):
        if not self.calls:
            return
        handed_in = list(self.calls)
        given_back = []
        for answer in self.told:
            given_back += [len(answer)] + answer
        self.assertEqual(answers(handed_in), given_back)
        self.assertEqual(handed_in, self.calls)
        self.assertEqual(answers(handed_in), given_back)
        self.assertEqual({type(number) for number in given_back}, {int})

    def ask(self, name, *arguments):
        call = as_call(name, *arguments)
        before = picture(self.store)
        reader = Reader(call)
        answer = answer_next(self.store, reader)
        self.assertTrue(reader.at_end())
        if is_refusal(name, answer):
            self.assertEqual(len(answer), 1, call)
        if is_refusal(name, answer) or name in TELLING:
            self.assertEqual(picture(self.store), before, call)
        self.calls += call
        self.told.append(answer)
        return answer

    def gives(self, answer, name, *arguments):
        self.assertEqual(self.ask(name, *arguments), [answer], (name, arguments))

    def tells(self, answer, name, *arguments):
        self.assertEqual(self.ask(name, *arguments), answer, (name, arguments))

    def boxes(self, count, holder):
        for turn in range(count):
            self.gives(len(self.store.boxes) + 1, "box", holder)

    def piece(self, label):
        """What piece is to tell: split from, made, now, used, lost, gone, holder, box, warm minutes."""
        piece = self.store.pieces[label]
        return (piece.source, piece.made, piece.mass, piece.used, piece.lost, piece.gone,
                self.store.piece_holder(piece), piece.box, piece.warm)

    def box(self, number):
        """Holder, the box that it's in, seal, kept in frost, open."""
        box = self.store.boxes[number]
        return (self.store.box_holder(number), box.outer, box.seal, box.frost, self.store.is_open(number))
