"""answers(calls): how calls are read, what is given back, and what's refused ahead of a call's own refusals."""

import random
import unittest

from rocksamples.samples import answers
from tests.calling import GREATEST, LEAST, NUMBERS, LineTest, as_call, told_apart

# What each argument may be; a label outside 0 to 999999 is out of its range, any other only not there.
RANGES = {
    "k": (0, 9999), "n": (0, 999999), "b": (1, 10), "o": (1, 10), "p": (0, 5), "q": (0, 5),
    "mass": (1, 1000000000), "mark": (1, 9999),
}

# A call of each kind that isn't refused on the object of made_ready().
GOOD_CALLS = {
    "sample": (("k", 7), ("mass", 5), ("p", 2)),
    "split": (("n", 195), ("k", 7), ("mass", 5)),
    "use": (("n", 195), ("mass", 5)),
    "lose": (("n", 195),),
    "box": (("p", 2),),
    "put": (("n", 195), ("b", 1)),
    "take": (("n", 292),),
    "nest": (("b", 3), ("o", 1)),
    "unnest": (("b", 2),),
    "seal": (("b", 1), ("mark", 5)),
    "open": (("b", 4), ("mark", 5)),
    "hand": (("n", 195), ("p", 3), ("q", 2)),
    "handbox": (("b", 1), ("p", 3), ("q", 2)),
}


def made_ready():
    """A loose piece 195, a piece 292 in box 1, box 2 in box 1, a loose box 3, a sealed box 4, a gone piece 389."""
    calls = []
    for k in (1, 2, 3):
        calls += as_call("sample", k, 100, 3)
    for number in range(4):
        calls += as_call("box", 3)
    calls += as_call("put", 292, 1)
    calls += as_call("nest", 2, 1)
    calls += as_call("seal", 4, 5)
    calls += as_call("lose", 389)
    return calls


def last_answer(calls):
    return told_apart(answers(calls))[-1]


def values(name):
    return [value for argument, value in GOOD_CALLS[name]]


def wrong_values(argument):
    least, greatest = RANGES[argument]
    return [least - 1, greatest + 1, -1, -1000000, LEAST, LEAST + 1, GREATEST, GREATEST - 1, 2 ** 32 + 1, -2 ** 32]


class Reading(unittest.TestCase):
    def test_a_line_number_by_number(self):
        calls = [
            0, 0, 1000, 2,
            4, 2,
            5, 98, 1,
            1, 98, 9999, 300,
            12, 1, 2, 4,
            6, 98,
            11, 98, 4, 0,
            2, 98, 700,
            3, 999974,
            3, 999974,
        ]
        self.assertEqual(answers(calls), [
            1, 98, 1, 1, 1, 0, 1, 999974, 1, 2, 1, 4, 1, 0, 1, 0, 1, 300, 1, -3,
        ])

    def test_one_call(self):
        self.assertEqual(answers([4, 0]), [1, 1])
        self.assertEqual(answers([3, 98]), [1, -2])
        self.assertEqual(answers([0, 0, 0, 0]), [1, -1])

    def test_arguments_that_look_like_calls(self):
        self.assertEqual(answers([12, 12, 12, 12, 4, 4, 4, 12, 4, 0]), [1, -1, 1, 1, 1, -1, 1, 2])

    def test_two_hundred_calls(self):
        self.assertEqual(answers([4, 1] * 200), [1, 1, 1, 2, 1, 3, 1, 4, 1, 5, 1, 6, 1, 7, 1, 8, 1, 9, 1, 10]
                         + [1, -5] * 190)

    def test_nothing_is_kept_from_one_time_to_the_next(self):
        calls = made_ready()
        first = answers(calls)
        answers([4, 0] * 10)
        first_again = answers(calls)
        self.assertEqual(first, first_again)
        first_again.append(7)
        self.assertEqual(answers(calls), first)
        self.assertEqual(answers([3, 195]), [1, -2])

    def test_what_is_handed_in_is_not_changed(self):
        calls = made_ready() + as_call("use", 195, 0) + as_call("split", 195, 3, 5)
        handed_in = list(calls)
        answers(handed_in)
        self.assertEqual(handed_in, calls)


class Ranges(unittest.TestCase):
    def test_the_good_calls_are_good(self):
        for name in NUMBERS:
            answer = last_answer(made_ready() + as_call(name, *values(name)))
            self.assertEqual((len(answer), answer[0] >= 0), (1, True), name)

    def test_each_argument_out_of_its_range(self):
        for name in NUMBERS:
            for place, (argument, good) in enumerate(GOOD_CALLS[name]):
                for wrong in wrong_values(argument):
                    arguments = values(name)
                    arguments[place] = wrong
                    calls = as_call(name, *arguments)
                    self.assertEqual(last_answer(made_ready() + calls), [-1], calls)
                    self.assertEqual(last_answer(calls), [-1], calls)

    def test_every_argument_out_of_its_range(self):
        for name in NUMBERS:
            for wrong in (LEAST, GREATEST):
                calls = as_call(name, *[wrong for value in values(name)])
                self.assertEqual(answers(calls + [4, 5]), [1, -1, 1, 1], calls)

    def test_the_ends_of_the_ranges_are_in_them(self):
        for name in NUMBERS:
            for place, (argument, good) in enumerate(GOOD_CALLS[name]):
                for end in RANGES[argument]:
                    arguments = values(name)
                    arguments[place] = end
                    calls = as_call(name, *arguments)
                    self.assertNotEqual(last_answer(made_ready() + calls), [-1], calls)

    def test_a_range_comes_ahead_of_a_piece_that_is_gone_or_not_there(self):
        for label in (389, 196):
            for calls in (
                as_call("split", label, -1, 5),
                as_call("split", label, 7, 0),
                as_call("use", label, 1000000001),
                as_call("put", label, 0),
                as_call("put", label, 11),
                as_call("hand", label, 6, 2),
                as_call("hand", label, 3, 6),
            ):
                self.assertEqual(last_answer(made_ready() + calls), [-1], calls)

    def test_a_range_comes_ahead_of_a_box_that_is_not_there(self):
        for calls in (
            as_call("put", -1, 9),
            as_call("nest", 9, 0),
            as_call("nest", 11, 9),
            as_call("seal", 9, 0),
            as_call("open", 9, 10000),
            as_call("handbox", 9, -1, 2),
            as_call("handbox", 9, 3, 6),
        ):
            self.assertEqual(last_answer(made_ready() + calls), [-1], calls)


class Named(unittest.TestCase):
    def refused_with(self, argument, named, refusal):
        for name in NUMBERS:
            for place, (called, good) in enumerate(GOOD_CALLS[name]):
                if called == argument:
                    arguments = values(name)
                    arguments[place] = named
                    calls = as_call(name, *arguments)
                    self.assertEqual(last_answer(made_ready() + calls), [refusal], calls)

    def test_no_such_piece(self):
        for label in (0, 1, 194, 196, 98, 999974, 999999):
            self.refused_with("n", label, -2)

    def test_a_gone_piece(self):
        self.refused_with("n", 389, -3)

    def test_no_such_box(self):
        for number in (5, 10):
            self.refused_with("b", number, -2)
            self.refused_with("o", number, -2)

    def test_a_gone_piece_comes_ahead_of_no_such_box(self):
        self.assertEqual(last_answer(made_ready() + as_call("put", 389, 9)), [-3])
        self.assertEqual(last_answer(made_ready() + as_call("put", 390, 9)), [-2])
        self.assertEqual(last_answer(made_ready() + as_call("put", 292, 9)), [-2])

    def test_no_such_box_comes_ahead_of_the_own_refusals(self):
        self.assertEqual(last_answer(made_ready() + as_call("nest", 2, 9)), [-2])
        self.assertEqual(last_answer(made_ready() + as_call("nest", 9, 4)), [-2])


class LongLines(LineTest):
    """Whatever is asked in whatever order: masses add up, and who holds what hangs together."""

    def any_argument(self, source, argument):
        if argument == "n" and self.store.pieces:
            return source.choice(list(self.store.pieces))
        if source.randrange(40) == 0:
            return source.choice(wrong_values(argument))
        return source.randint(*{"k": (0, 60), "n": (0, 999), "mass": (1, 200), "mark": (1, 2), "b": (1, 6),
                                "o": (1, 6), "p": (0, 1), "q": (0, 1)}[argument])

    def any_call(self, source):
        name = source.choice(list(NUMBERS) + ["sample", "put", "put", "nest", "handbox", "open", "open"])
        return name, [self.any_argument(source, argument) for argument, good in GOOD_CALLS[name]]

    def family_mass(self, label):
        family = [label]
        for piece in self.store.pieces.values():
            if piece.source in family:
                family.append(piece.label)
        pieces = [self.store.pieces[one] for one in family]
        return sum(piece.mass + piece.used + piece.lost for piece in pieces)

    def look_at_pieces(self):
        for piece in self.store.pieces.values():
            if piece.source == -1:
                self.assertEqual(self.family_mass(piece.label), piece.made)
            self.assertEqual(piece.gone, piece.mass == 0)
            self.assertTrue(piece.box == 0 or not piece.gone)
            self.assertTrue(piece.box == 0 or piece.label in self.store.manifest(piece.box))

    def test_masses_add_up(self):
        refused = 0
        for seed in range(60):
            self.setUp()
            source = random.Random(seed)
            for turn in range(200):
                name, arguments = self.any_call(source)
                before = {label: self.piece(label)[6] for label in self.store.pieces}
                answer = self.ask(name, *arguments)
                refused += answer[0] < 0
                self.look_at_pieces()
                after = {label: self.piece(label)[6] for label in before}
                if name not in ("hand", "handbox"):
                    self.assertEqual(after, before)
                elif answer[0] >= 0:
                    handed = self.store.handings[-1][3]
                    self.assertEqual(after, {label: arguments[2] if label in handed else before[label]
                                             for label in before})
            self.tearDown()
        self.assertTrue(2000 < refused < 10000, refused)


if __name__ == "__main__":
    unittest.main()
