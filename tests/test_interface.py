"""answers(calls): how calls are read, what is given back, and what's refused ahead of a call's own refusals."""

import unittest

from rocksamples.samples import answers
from tests.calling import GOOD_CALLS, GREATEST, LEAST, NUMBERS, as_call, is_refusal, last_answer, made_ready
from tests.calling import right_ends, wrong_values

def values(name):
    return [value for argument, value in GOOD_CALLS[name]]


class Reading(unittest.TestCase):
    def test_a_line_number_by_number(self):
        calls = [
            0, 0, 1000, 2,
            4, 2,
            5, 98, 1,
            1, 98, 9999, 300,
            12, 1, 2, 4,
            6, 98,
            11, 98, 4, 0,
            2, 98, 700,
            3, 999974,
            3, 999974,
        ]
        self.assertEqual(answers(calls), [
            1, 98, 1, 1, 1, 0, 1, 999974, 1, 2, 1, 4, 1, 0, 1, 0, 1, 300, 1, -3,
        ])

    def test_a_line_with_texts_and_lists_number_by_number(self):
        calls = [
            0, 0, 1000, 2,
            0, 1, 1000, 2,
            4, 2,
            5, 98, 1,
            14, 60,
            11, 195, 2, 3,
            15, 195,
            16, 1,
            17, 1,
            18, 98,
            19, 6, 63, 63, 63, 63, 57, 63,
            20, 1, 13, 48, 48, 48, 49, 57, 53, 32, 48, 48, 48, 48, 57, 56,
            21, 1, 13, 48, 48, 48, 49, 57, 53, 32, 48, 48, 48, 48, 57, 56,
            22, 1, 13, 48, 48, 48, 49, 57, 53, 32, 48, 48, 48, 48, 57, 56,
            19, 0,
            22, 1, 0,
            23, 195,
            24, 60,
            13, 1, 1,
            25, 9999,
        ]
        self.assertEqual(answers(calls), [
            1, 98, 1, 195, 1, 1, 1, 0, 1, 60, 1, 0,
            9, -1, 1000, 1000, 0, 0, 0, 3, 0, 60,
            5, 2, 0, 0, 0, 1,
            2, 1, 98,
            5, 1000, 1, 1000, 0, 0,
            3, 2, 98, 195,
            4, 1, 2, 0, 98,
            8, 2, 0, 98, 1, 98, 0, 1, 0,
            3, 1, 1, 0,
            1, -4,
            1, -4,
            4, 1, 60, 2, 3,
            3, 2, 98, 195,
            1, 0,
            1, 999974,
        ])

    def test_the_next_call_begins_behind_a_refused_text(self):
        for length in (0, 1, 60, 61, 97):
            for name in ("best", "sure", "cover"):
                self.assertEqual(answers(as_call(name, 1, [4] * length) + [4, 5])[2:], [1, 1], (name, length))
        self.assertEqual(answers(as_call("read", [4] * 98) + [4, 5]), [1, -1, 1, 1])

    def test_one_call(self):
        self.assertEqual(answers([4, 0]), [1, 1])
        self.assertEqual(answers([3, 98]), [1, -2])
        self.assertEqual(answers([0, 0, 0, 0]), [1, -1])

    def test_arguments_that_look_like_calls(self):
        self.assertEqual(answers([12, 12, 12, 12, 4, 4, 4, 12, 4, 0]), [1, -1, 1, 1, 1, -1, 1, 2])

    def test_two_hundred_calls(self):
        self.assertEqual(answers([4, 1] * 200), [1, 1, 1, 2, 1, 3, 1, 4, 1, 5, 1, 6, 1, 7, 1, 8, 1, 9, 1, 10]
                         + [1, -5] * 190)

    def test_nothing_is_kept_from_one_time_to_the_next(self):
        calls = made_ready()
        first = answers(calls)
        answers([4, 0] * 10)
        first_again = answers(calls)
        self.assertEqual(first, first_again)
        first_again.append(7)
        self.assertEqual(answers(calls), first)
        self.assertEqual(answers([3, 195]), [1, -2])

    def test_what_is_handed_in_is_not_changed(self):
        calls = made_ready() + as_call("use", 195, 0) + as_call("split", 195, 3, 5)
        handed_in = list(calls)
        answers(handed_in)
        self.assertEqual(handed_in, calls)


class Ranges(unittest.TestCase):
    def test_the_good_calls_are_good(self):
        for name in NUMBERS:
            answer = last_answer(made_ready() + as_call(name, *values(name)))
            self.assertFalse(is_refusal(name, answer), name)

    def test_each_argument_out_of_its_range(self):
        for name in NUMBERS:
            for place, (argument, good) in enumerate(GOOD_CALLS[name]):
                for wrong in wrong_values(argument):
                    arguments = values(name)
                    arguments[place] = wrong
                    calls = as_call(name, *arguments)
                    self.assertEqual(last_answer(made_ready() + calls), [-1], calls)
                    self.assertEqual(last_answer(calls), [-1], calls)

    def test_every_argument_out_of_its_range(self):
        for name in NUMBERS:
            for wrong in (LEAST, GREATEST):
                kinds = [argument for argument, good in GOOD_CALLS[name]]
                calls = as_call(name, *[[wrong] if kind == "text" else wrong for kind in kinds])
                self.assertEqual(answers(calls + [4, 5]), [1, -1, 1, 1], calls)

    def test_the_ends_of_the_ranges_are_in_them(self):
        for name in NUMBERS:
            for place, (argument, good) in enumerate(GOOD_CALLS[name]):
                for end in right_ends(argument):
                    arguments = values(name)
                    arguments[place] = end
                    calls = as_call(name, *arguments)
                    self.assertNotEqual(last_answer(made_ready() + calls), [-1], calls)

    def test_a_range_comes_ahead_of_a_piece_that_is_gone_or_not_there(self):
        for label in (389, 196):
            for calls in (
                as_call("split", label, -1, 5),
                as_call("split", label, 7, 0),
                as_call("use", label, 1000000001),
                as_call("put", label, 0),
                as_call("put", label, 11),
                as_call("hand", label, 6, 2),
                as_call("hand", label, 3, 6),
            ):
                self.assertEqual(last_answer(made_ready() + calls), [-1], calls)

    def test_a_range_comes_ahead_of_a_box_that_is_not_there(self):
        for calls in (
            as_call("put", -1, 9),
            as_call("nest", 9, 0),
            as_call("nest", 11, 9),
            as_call("seal", 9, 0),
            as_call("open", 9, 10000),
            as_call("handbox", 9, -1, 2),
            as_call("handbox", 9, 3, 6),
            as_call("frost", 9, 2),
            as_call("best", 9, "?" * 61),
            as_call("sure", 9, [63] * 5 + [256]),
            as_call("cover", 9, [-1]),
        ):
            self.assertEqual(last_answer(made_ready() + calls), [-1], calls)


class Named(unittest.TestCase):
    def refused_with(self, argument, named, refusal, but=()):
        for name in NUMBERS:
            if name in but:
                continue
            for place, (called, good) in enumerate(GOOD_CALLS[name]):
                if called == argument:
                    arguments = values(name)
                    arguments[place] = named
                    calls = as_call(name, *arguments)
                    self.assertEqual(last_answer(made_ready() + calls), [refusal], calls)

    def test_no_such_piece(self):
        for label in (0, 1, 194, 196, 98, 999974, 999999):
            self.refused_with("n", label, -2)

    def test_a_gone_piece(self):
        self.refused_with("n", 389, -3, ("piece", "sums", "chain"))

    def test_some_tell_of_a_gone_piece_too(self):
        self.assertEqual(last_answer(made_ready() + as_call("piece", 389)), [-1, 100, 0, 0, 100, 1, 3, 0, 0])
        self.assertEqual(last_answer(made_ready() + as_call("sums", 389)), [100, 1, 0, 0, 100])
        self.assertEqual(last_answer(made_ready() + as_call("chain", 389)), [0])

    def test_no_such_box(self):
        for number in (5, 10):
            self.refused_with("b", number, -2)
            self.refused_with("o", number, -2)

    def test_a_gone_piece_comes_ahead_of_no_such_box(self):
        self.assertEqual(last_answer(made_ready() + as_call("put", 389, 9)), [-3])
        self.assertEqual(last_answer(made_ready() + as_call("put", 390, 9)), [-2])
        self.assertEqual(last_answer(made_ready() + as_call("put", 292, 9)), [-2])

    def test_no_such_box_comes_ahead_of_the_own_refusals(self):
        self.assertEqual(last_answer(made_ready() + as_call("nest", 2, 9)), [-2])
        self.assertEqual(last_answer(made_ready() + as_call("nest", 9, 4)), [-2])
        for name in ("best", "sure", "cover"):
            self.assertEqual(last_answer(made_ready() + as_call(name, 9, "?")), [-2])
            self.assertEqual(last_answer(made_ready() + as_call(name, 1, "?")), [-4])


if __name__ == "__main__":
    unittest.main()
