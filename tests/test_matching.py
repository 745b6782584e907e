"""Promises 20, 21 and 22: best, sure and cover, by hand and against a plain search through all matchings."""

import random
import unittest

from rocksamples.labels import label_of
from rocksamples.samples import answers
from rocksamples.tellings import matching_refusal
from tests.calling import GREATEST, LEAST, LineTest, as_call, best_ones, plain_best, plain_cover
from tests.calling import plain_fits, plain_sure, told_apart

# Of the samples 0 to 4: 000098 000195 000292 000389 000486.
ANY = "??????"


class FoundLabels(LineTest):
    """A box 1 with the labels that a test expects."""

    def expect(self, *numbers):
        self.gives(1, "box", 0)
        for k in numbers:
            self.ask("sample", k, 10, 0)
            self.gives(0, "put", label_of(k), 1)


class Best(FoundLabels):
    def test_a_plain_one(self):
        self.expect(2, 0, 1)
        self.tells([2, 2, 195, 98], "best", 1, "000195 0000?8")
        self.tells([3, 3, 292, 195, 98], "best", 1, "??0292 ??0195 ??0098")
        self.tells([1, 1, 98], "best", 1, "000098")

    def test_of_those_that_fit_the_lesser(self):
        self.expect(3, 1, 2)
        self.tells([1, 1, 195], "best", 1, ANY)
        self.tells([2, 2, 195, 292], "best", 1, f"{ANY} {ANY}")
        self.tells([3, 3, 195, 292, 389], "best", 1, f"{ANY} {ANY} {ANY}")

    def test_more_readings_come_ahead_of_a_lesser_label(self):
        self.expect(1, 2)
        self.tells([2, 2, 292, 195], "best", 1, f"{ANY} 000195")
        self.tells([2, 2, 195, 292], "best", 1, f"{ANY} 000292")

    def test_a_found_label_moves_on_for_another_twice_removed(self):
        self.expect(0, 1, 2)
        self.tells([3, 3, 195, 292, 98], "best", 1, f"{ANY} 000?9? 000098")
        self.tells([3, 3, 292, 195, 98], "best", 1, f"{ANY} 0001?? 0000??")

    def test_any_is_before_none(self):
        self.expect(1)
        self.tells([1, 2, 195, 0], "best", 1, f"{ANY} 000195")
        self.tells([1, 2, 195, 0], "best", 1, f"000195 {ANY}")
        self.tells([1, 3, 0, 195, 0], "best", 1, f"000098 {ANY} {ANY}")

    def test_an_earlier_found_label_comes_first_even_if_a_later_one_gets_none(self):
        self.expect(1, 2)
        self.tells([2, 3, 195, 292, 0], "best", 1, f"000195 {ANY} 000292")
        self.tells([2, 3, 195, 0, 292], "best", 1, f"000195 0001?? {ANY}")

    def test_none_fits(self):
        self.expect(1, 2)
        self.tells([0, 2, 0, 0], "best", 1, "999974 1?????")

    def test_zeros_in_front(self):
        self.expect(0, 9999)
        self.tells([1, 1, 98], "best", 1, "0?????")
        self.tells([0, 1, 0], "best", 1, "98????")


class Sure(FoundLabels):
    def test_legible_ones(self):
        self.expect(0, 1, 2)
        self.tells([2, 292, 98, 2, 98, 292, 1, 195, 0], "sure", 1, "000292 000098")

    def test_a_foreign_one(self):
        self.expect(0, 1)
        self.tells([3, 0, 195, 0, 1, 195, 1, 98, 2, 0, 2], "sure", 1, "999974 000195 0002??")

    def test_by_what_is_left(self):
        self.expect(0, 1, 2)
        self.tells([3, 98, 195, 292, 3, 98, 195, 292, 0, 0], "sure", 1, f"0000?? 000?95 {ANY}")
        self.tells([3, 292, 195, 98, 3, 98, 195, 292, 0, 0], "sure", 1, f"{ANY} 0001?? 00009?")

    def test_there_but_not_sure_where(self):
        self.expect(0, 1)
        self.tells([2, 0, 0, 2, 98, 195, 0, 0], "sure", 1, f"{ANY} {ANY}")

    def test_maybe_there(self):
        self.expect(0, 1, 2)
        self.tells([1, 0, 0, 0, 0], "sure", 1, ANY)
        self.tells([2, 0, 98, 1, 98, 0, 0], "sure", 1, f"{ANY} 000098")

    def test_two_found_ones_for_one(self):
        self.expect(0, 1)
        self.tells([2, 0, 0, 1, 98, 1, 195, 0], "sure", 1, "000098 00009?")
        self.tells([3, 0, 0, 195, 2, 98, 195, 0, 0], "sure", 1, "000098 00009? 0001??")

    def test_none_fits(self):
        self.expect(1, 2)
        self.tells([2, 0, 0, 0, 2, 195, 292, 2, 0, 1], "sure", 1, "999974 1?????")


class Cover(FoundLabels):
    def test_all_found_ones_are_matched(self):
        self.expect(0, 1, 2)
        self.tells([2, 0, 1, 0], "cover", 1, f"{ANY} 000098")

    def test_one_is_left(self):
        self.expect(0, 1)
        self.tells([0, 1, 98], "cover", 1, "000098 00009?")
        self.tells([1, 2, 1, 98], "cover", 1, "000098 00009? 0001??")
        self.tells([0, 2, 98, 195], "cover", 1, f"000098 {ANY} 0001??")

    def test_one_that_fits_none_is_come_to_by_itself(self):
        self.expect(0, 1)
        self.tells([2, 0, 2, 0], "cover", 1, f"{ANY} 999974 000098")

    def test_a_long_way(self):
        self.expect(0, 1, 2, 3)
        self.tells([0, 4, 98, 195, 292, 389], "cover", 1, f"000098 000?9? 000?9? {ANY} {ANY}")
        self.tells([1, 4, 3, 98, 195, 292], "cover", 1, f"000098 000?9? 000?9? 000?9? {ANY}")
        self.tells([3, 1, 2, 3, 1, 98], "cover", 1, "000098 000?9? 000389 000?9? 000098")

    def test_none_fits(self):
        self.expect(1, 2)
        self.tells([0, 0], "cover", 1, "999974 1?????")


class Edges(FoundLabels):
    def all_three(self, best, sure, cover, number, text):
        self.tells(best, "best", number, text)
        self.tells(sure, "sure", number, text)
        self.tells(cover, "cover", number, text)

    def all_refuse(self, refusal, number, text):
        self.all_three([refusal], [refusal], [refusal], number, text)

    def test_an_empty_manifest(self):
        self.expect()
        self.all_three([0, 1, 0], [1, 0, 0, 0, 1, 0], [0, 0], 1, ANY)
        self.all_three([0, 3, 0, 0, 0], [3, 0, 0, 0, 0, 0, 3, 0, 1, 2], [0, 0], 1, f"{ANY} 000098 {ANY}")

    def test_eight_found_labels(self):
        self.expect(*range(8))
        labels = [label_of(k) for k in range(8)]
        text = " ".join([ANY] * 8)
        self.all_three([8, 8] + labels, [8] + [0] * 8 + [8] + labels + [0, 0], [8] + list(range(8)) + [0], 1, text)
        self.assertEqual(len(text), 55)

    def test_nine_found_labels_are_too_long_a_text(self):
        self.expect(*range(8))
        self.all_refuse(-1, 1, " ".join([ANY] * 9))
        self.all_refuse(-1, 2, " ".join([ANY] * 9))

    def test_nine_found_labels_are_too_many(self):
        patterns = [[63] * 6] * 9
        self.assertEqual(matching_refusal(patterns, []), -5)
        self.assertEqual(matching_refusal(patterns[:8], []), 0)
        self.assertEqual(matching_refusal(patterns + [[63]], []), -4)

    def test_ten_expected_labels(self):
        self.expect(*range(10))
        labels = [label_of(k) for k in range(10)]
        text = " ".join([ANY] * 8)
        self.all_three([8, 8] + labels[:8], [8] + [0] * 8 + [0, 0, 0], [8] + list(range(8)) + [0], 1, text)

    def test_eleven_expected_labels(self):
        self.expect(*range(11))
        self.all_refuse(-5, 1, ANY)
        self.all_refuse(-5, 1, "999999")
        self.all_refuse(-4, 1, "99999")
        self.all_refuse(-4, 1, "")
        self.all_refuse(-1, 1, "?" * 61)
        self.all_refuse(-2, 2, ANY)
        self.gives(10, "lose", 98)
        self.tells([1, 1, 195], "best", 1, ANY)

    def test_eleven_in_boxes_within(self):
        self.expect(*range(6))
        self.gives(2, "box", 0)
        for k in range(6, 11):
            self.ask("sample", k, 10, 0)
            self.gives(0, "put", label_of(k), 2)
        self.tells([1, 1, 98], "best", 1, ANY)
        self.gives(0, "nest", 2, 1)
        self.all_refuse(-5, 1, ANY)
        self.all_three([1, 1, label_of(6)], [1, 0, 0, 0, 0], [1, 0, 0], 2, ANY)

    def test_boxes_within_count_and_other_pieces_do_not(self):
        self.expect(0)
        self.gives(2, "box", 0)
        self.gives(0, "nest", 2, 1)
        self.ask("sample", 1, 10, 0)
        self.gives(0, "put", 195, 2)
        self.ask("sample", 2, 10, 0)
        self.gives(0, "seal", 1, 9)
        self.all_three([2, 3, 98, 195, 0], [3, 98, 195, 0, 2, 98, 195, 0, 1, 2], [2, 0, 1, 0], 1,
                       "000098 000195 000292")
        self.all_three([1, 3, 0, 195, 0], [3, 0, 195, 0, 1, 195, 0, 2, 0, 2], [1, 1, 0], 2,
                       "000098 000195 000292")

    def test_texts_that_are_no_patterns(self):
        self.expect(0, 1)
        for text in ("", " ", "?", "?????", "???????", "?" * 12, "?" * 13, f"{ANY} ", f" {ANY}", f"{ANY}  {ANY}",
                     f"{ANY},{ANY}", f"{ANY}\t{ANY}", f"{ANY}\n{ANY}", f"{ANY} ?????", f"????? {ANY}", f"{ANY} ???????",
                     f"{ANY} 00009a", "00009a", f"{ANY} 00009/", f"{ANY} 00009:", f"{ANY}\0{ANY}", "?" * 60, " " * 60,
                     [0] * 60, [255] * 60, f"{ANY}\n", f"{ANY} " * 8, "??? ??? ??????", f"{ANY}\xa0{ANY}"):
            self.all_refuse(-4, 1, text)
            self.all_refuse(-2, 2, text)
            self.all_refuse(-1, 11, text)

    def test_texts_out_of_their_range(self):
        self.expect(0, 1)
        for text in ("?" * 61, "?" * 97, [-1], [256], [63] * 5 + [319], [63] * 59 + [256], [LEAST] * 6, [GREATEST] * 6,
                     [LEAST] * 97, [63] * 6 + [288] + [63] * 6):
            for number in (0, 1, 2, 11, LEAST, GREATEST):
                self.all_refuse(-1, number, text)

    def test_boxes_out_of_their_range(self):
        self.expect(0, 1)
        for number in (0, 11, -1, LEAST, GREATEST):
            self.all_refuse(-1, number, ANY)
        for number in (2, 10):
            self.all_refuse(-2, number, ANY)


def hidden(source, label, chance):
    return "".join("?" if source.random() < chance else digit for digit in f"{label:06d}")


def drawn_labels(source, most_found, most_expected, chances):
    """Found patterns, of expected labels mostly, and expected labels."""
    span = source.choice((12, 40, 120, 9999))
    numbers = source.sample(range(span + 1), 12)
    expected = sorted(label_of(k) for k in numbers[:source.randint(0, most_expected)])
    patterns = []
    for turn in range(source.randint(1, most_found)):
        label = label_of(source.choice(numbers))
        if expected and source.random() < 0.8:
            label = source.choice(expected)
        patterns.append(hidden(source, label, source.choice(chances)))
    source.shuffle(patterns)
    return patterns, expected


def line_of(source, patterns, expected):
    """One box, or two of which one lies in the other, with the expected labels; then best, sure, cover."""
    calls = [4, 0, 4, 0, 7, 2, 1]
    for label in source.sample(expected, len(expected)):
        calls += as_call("sample", label // 100, 5, 0) + as_call("put", label, source.choice((1, 2)))
    for name in ("best", "sure", "cover"):
        calls += as_call(name, 1, " ".join(patterns))
    return calls


class PlainSearch(unittest.TestCase):
    def compare(self, source, most_found, most_expected, chances):
        patterns, expected = drawn_labels(source, most_found, most_expected, chances)
        told = told_apart(answers(line_of(source, patterns, expected)))[-3:]
        self.assertEqual(told[0], plain_best(patterns, expected), (patterns, expected))
        self.assertEqual(told[1], plain_sure(patterns, expected), (patterns, expected))
        self.assertEqual(told[2], plain_cover(patterns, expected), (patterns, expected))
        return patterns, expected

    def note_kinds(self, seen, patterns, expected):
        fitting = [sum(plain_fits(label, pattern) for label in expected) for pattern in patterns]
        fitted = [sum(plain_fits(label, pattern) for pattern in patterns) for label in expected]
        ones = best_ones(patterns, expected)
        seen["several expected for a found one"] += max(fitting) > 1
        seen["several found for an expected one"] += max(fitted, default=0) > 1
        seen["several best matchings"] += len(ones) > 1
        seen["several of which none has a found one that fits"] += len(ones) > 1 and 0 in ones[0] and min(fitting) > 0
        seen["one best matching"] += len(ones) == 1 and max(fitting) > 1
        seen["nothing expected"] += not expected

    def test_few_labels_hardly_legible(self):
        source = random.Random(1)
        seen = dict.fromkeys((
            "several expected for a found one", "several found for an expected one", "several best matchings",
            "several of which none has a found one that fits", "one best matching", "nothing expected"), 0)
        for turn in range(1500):
            self.note_kinds(seen, *self.compare(source, 5, 5, (0, 0.3, 0.6, 0.8, 0.9, 1)))
        for kind, times in seen.items():
            self.assertGreater(times, 50, kind)

    def test_many_labels_legible_in_part(self):
        source = random.Random(2)
        for turn in range(800):
            self.compare(source, 8, 10, (0, 0.1, 0.2, 0.3, 0.5))

    def test_many_found_for_few_expected(self):
        source = random.Random(3)
        for turn in range(300):
            self.compare(source, 8, 3, (0.3, 0.6, 0.8, 0.9))

    def test_few_found_for_many_expected(self):
        source = random.Random(4)
        for turn in range(300):
            self.compare(source, 3, 10, (0.3, 0.6, 0.8, 0.9))


if __name__ == "__main__":
    unittest.main()
