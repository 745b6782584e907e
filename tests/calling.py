"""What the tests share: a line of calls by their names, looked at from all sides as it grows."""

import copy
import unittest

from rocksamples.samples import Reader, answer_next, answers
from rocksamples.store import Store

NUMBERS = {
    "sample": 0, "split": 1, "use": 2, "lose": 3, "box": 4, "put": 5, "take": 6, "nest": 7,
    "unnest": 8, "seal": 9, "open": 10, "hand": 11, "handbox": 12,
}

LEAST = -9223372036854775808
GREATEST = 9223372036854775807


def as_call(name, *arguments):
    return [NUMBERS[name], *arguments]


def picture(store):
    """All that the object keeps, as plain values of their own."""
    kept = dict(vars(store))
    kept["pieces"] = {label: dict(vars(piece)) for label, piece in store.pieces.items()}
    kept["boxes"] = {number: dict(vars(box)) for number, box in store.boxes.items()}
    return copy.deepcopy(kept)


def told_apart(given_back):
    """The answers, each a list, out of the one list that's given back."""
    told = []
    place = 0
    while place < len(given_back):
        end = place + 1 + given_back[place]
        told.append(given_back[place + 1:end])
        place = end
    return told


class LineTest(unittest.TestCase):
    """Every refusal in a test is looked at for leaving the object as it was, and at a test's end
    the whole line goes through answers(), which must say the same, twice, and change nothing."""

    def setUp(self):
        self.store = Store()
        self.calls = []
        self.told = []

    def tearDown(self):
        if not self.calls:
            return
        handed_in = list(self.calls)
        given_back = []
        for answer in self.told:
            given_back += [len(answer)] + answer
        self.assertEqual(answers(handed_in), given_back)
        self.assertEqual(handed_in, self.calls)
        self.assertEqual(answers(handed_in), given_back)
        self.assertEqual({type(number) for number in given_back}, {int})

    def ask(self, name, *arguments):
        call = as_call(name, *arguments)
        before = picture(self.store)
        reader = Reader(call)
        answer = answer_next(self.store, reader)
        self.assertTrue(reader.at_end())
        if answer[0] < 0:
            self.assertEqual(len(answer), 1, call)
            self.assertEqual(picture(self.store), before, call)
        self.calls += call
        self.told.append(answer)
        return answer

    def gives(self, answer, name, *arguments):
        self.assertEqual(self.ask(name, *arguments), [answer], (name, arguments))

    def piece(self, label):
        """What piece is to tell: split from, made, now, used, lost, gone, holder, box, warm minutes."""
        piece = self.store.pieces[label]
        return (piece.source, piece.made, piece.mass, piece.used, piece.lost, piece.gone,
                self.store.piece_holder(piece), piece.box, piece.warm)

    def box(self, number):
        """Holder, the box that it's in, seal, kept in frost, open."""
        box = self.store.boxes[number]
        return (self.store.box_holder(number), box.outer, box.seal, box.frost, self.store.is_open(number))
