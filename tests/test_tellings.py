"""Promise 19, and the calls piece, told, manifest, sums, chain and label, of which the list of the calls tells all."""

import unittest

from rocksamples.labels import label_of
from tests.calling import GREATEST, LEAST, LineTest


class Piece(LineTest):
    def test_a_new_one(self):
        self.gives(98, "sample", 0, 1000000000, 5)
        self.tells([-1, 1000000000, 1000000000, 0, 0, 0, 5, 0, 0], "piece", 98)

    def test_split_used_boxed_and_handed_over(self):
        self.gives(195, "sample", 1, 500, 3)
        self.gives(7, "pass", 7)
        self.gives(292, "split", 195, 2, 120)
        self.gives(100, "use", 292, 20)
        self.boxes(2, 3)
        self.gives(0, "nest", 1, 2)
        self.gives(0, "put", 292, 1)
        self.gives(0, "seal", 2, 4)
        self.gives(1, "handbox", 2, 3, 0)
        self.tells([-1, 500, 380, 0, 0, 0, 3, 0, 7], "piece", 195)
        self.tells([195, 120, 100, 20, 0, 0, 0, 1, 7], "piece", 292)

    def test_a_gone_one(self):
        self.gives(195, "sample", 1, 500, 3)
        self.gives(292, "split", 195, 2, 120)
        self.gives(1, "box", 3)
        self.gives(0, "put", 195, 1)
        self.gives(1, "handbox", 1, 3, 2)
        self.gives(300, "use", 195, 80)
        self.gives(300, "lose", 195)
        self.tells([-1, 500, 0, 80, 300, 1, 2, 0, 0], "piece", 195)
        self.gives(0, "use", 292, 120)
        self.tells([195, 120, 0, 120, 0, 1, 3, 0, 0], "piece", 292)

    def test_refusals(self):
        self.gives(-2, "piece", 195)
        self.gives(195, "sample", 1, 500, 3)
        for label in (-1, 1000000, LEAST, GREATEST):
            self.gives(-1, "piece", label)
        for label in (0, 1, 999999):
            self.gives(-2, "piece", label)


class Told(LineTest):
    def test_a_new_one(self):
        self.gives(1, "box", 4)
        self.tells([4, 0, 0, 0, 1], "told", 1)

    def test_nested_sealed_and_handed_over(self):
        self.boxes(3, 4)
        self.gives(0, "seal", 1, 9999)
        self.gives(0, "nest", 1, 2)
        self.gives(0, "nest", 2, 3)
        self.gives(0, "handbox", 3, 4, 1)
        self.tells([1, 2, 9999, 0, 0], "told", 1)
        self.tells([1, 3, 0, 0, 1], "told", 2)
        self.tells([1, 0, 0, 0, 1], "told", 3)
        self.gives(0, "seal", 3, 1)
        self.gives(0, "frost", 3, 1)
        self.tells([1, 2, 9999, 1, 0], "told", 1)
        self.tells([1, 3, 0, 1, 0], "told", 2)
        self.tells([1, 0, 1, 1, 0], "told", 3)

    def test_refusals(self):
        self.gives(-2, "told", 1)
        self.gives(1, "box", 4)
        self.gives(-2, "told", 2)
        self.gives(-2, "told", 10)
        for number in (0, 11, -1, LEAST, GREATEST):
            self.gives(-1, "told", number)


class Manifest(LineTest):
    def test_of_none(self):
        self.gives(1, "box", 4)
        self.tells([0], "manifest", 1)

    def test_all_that_lies_in_it_rising(self):
        for k in (8, 3, 5, 1, 6):
            self.ask("sample", k, 10, 0)
        self.boxes(4, 0)
        for k, number in ((8, 1), (3, 2), (5, 3), (1, 4)):
            self.gives(0, "put", label_of(k), number)
        self.gives(0, "nest", 1, 2)
        self.gives(0, "nest", 2, 3)
        self.tells([1, label_of(8)], "manifest", 1)
        self.tells([2, label_of(3), label_of(8)], "manifest", 2)
        self.tells([3, label_of(3), label_of(5), label_of(8)], "manifest", 3)
        self.tells([1, label_of(1)], "manifest", 4)
        self.gives(0, "seal", 2, 5)
        self.tells([3, label_of(3), label_of(5), label_of(8)], "manifest", 3)

    def test_gone_taken_and_split_ones(self):
        for k in (1, 2, 3):
            self.ask("sample", k, 10, 0)
        self.gives(1, "box", 0)
        for k in (1, 2, 3):
            self.gives(0, "put", label_of(k), 1)
        self.gives(10, "lose", 195)
        self.gives(0, "take", 292)
        self.gives(98, "split", 389, 0, 4)
        self.tells([2, 98, 389], "manifest", 1)

    def test_forty(self):
        self.gives(1, "box", 0)
        for k in reversed(range(40)):
            self.ask("sample", k, 10, 0)
            self.gives(0, "put", label_of(k), 1)
        self.tells([40] + [label_of(k) for k in range(40)], "manifest", 1)

    def test_refusals(self):
        self.gives(-2, "manifest", 1)
        self.gives(1, "box", 4)
        self.gives(-2, "manifest", 2)
        for number in (0, 11, -1, LEAST, GREATEST):
            self.gives(-1, "manifest", number)


class Sums(LineTest):
    def test_of_a_piece_by_itself(self):
        self.gives(195, "sample", 1, 500, 3)
        self.gives(400, "use", 195, 100)
        self.tells([500, 1, 400, 100, 0], "sums", 195)
        self.gives(400, "lose", 195)
        self.tells([500, 1, 0, 100, 400], "sums", 195)

    def test_several_generations(self):
        self.gives(label_of(9), "sample", 9, 1000, 3)
        self.gives(label_of(50), "sample", 50, 7, 3)
        self.gives(label_of(8), "split", label_of(9), 8, 600)
        self.gives(label_of(10), "split", label_of(8), 10, 300)
        self.gives(label_of(2), "split", label_of(9), 2, 50)
        self.gives(label_of(1), "split", label_of(10), 1, 100)
        self.gives(label_of(51), "split", label_of(50), 51, 3)
        self.gives(190, "use", label_of(10), 10)
        self.gives(60, "use", label_of(1), 40)
        self.gives(60, "lose", label_of(1))
        self.gives(300, "lose", label_of(8))
        self.tells([1000, 5, 350 + 50 + 190, 50, 360], "sums", label_of(9))
        self.tells([600, 3, 190, 50, 360], "sums", label_of(8))
        self.tells([300, 2, 190, 50, 60], "sums", label_of(10))
        self.tells([100, 1, 0, 40, 60], "sums", label_of(1))
        self.tells([50, 1, 50, 0, 0], "sums", label_of(2))
        self.tells([7, 2, 7, 0, 0], "sums", label_of(50))
        self.tells([3, 1, 3, 0, 0], "sums", label_of(51))

    def test_forty_generations(self):
        self.gives(label_of(39), "sample", 39, 1000000000, 3)
        for k in reversed(range(39)):
            self.ask("split", label_of(k + 1), k, k + 1)
        self.tells([1000000000, 40, 1000000000, 0, 0], "sums", label_of(39))
        self.tells([20, 20, 20, 0, 0], "sums", label_of(19))
        self.gives(1, "lose", 98)
        self.tells([20, 20, 19, 0, 1], "sums", label_of(19))

    def test_many_great_ones(self):
        for k in range(40):
            self.ask("sample", k, 1000000000, 0)
        self.tells([1000000000, 1, 1000000000, 0, 0], "sums", label_of(39))

    def test_refusals(self):
        self.gives(-2, "sums", 195)
        self.gives(195, "sample", 1, 500, 3)
        for label in (-1, 1000000, LEAST, GREATEST):
            self.gives(-1, "sums", label)
        for label in (0, 196, 999999):
            self.gives(-2, "sums", label)


class Chain(LineTest):
    def test_never_handed_over(self):
        self.gives(195, "sample", 1, 500, 3)
        self.tells([0], "chain", 195)

    def test_by_itself_and_in_boxes(self):
        self.gives(195, "sample", 1, 500, 3)
        self.gives(0, "hand", 195, 3, 0)
        self.gives(9, "pass", 9)
        self.boxes(2, 0)
        self.gives(0, "nest", 1, 2)
        self.gives(0, "put", 195, 1)
        self.gives(1, "handbox", 2, 0, 5)
        self.gives(-4, "hand", 195, 5, 4)
        self.gives(5, "take", 195)
        self.gives(0, "handbox", 2, 5, 1)
        self.gives(10, "pass", 1)
        self.gives(0, "hand", 195, 5, 3)
        self.gives(0, "hand", 195, 3, 5)
        self.tells([4, 0, 3, 0, 9, 0, 5, 10, 5, 3, 10, 3, 5], "chain", 195)

    def test_a_split_piece_has_none_of_before(self):
        self.gives(195, "sample", 1, 500, 3)
        self.gives(0, "hand", 195, 3, 4)
        self.gives(292, "split", 195, 2, 100)
        self.gives(2, "pass", 2)
        self.gives(0, "hand", 292, 4, 5)
        self.tells([1, 0, 3, 4], "chain", 195)
        self.tells([1, 2, 4, 5], "chain", 292)

    def test_a_gone_one_keeps_its_own(self):
        self.gives(195, "sample", 1, 500, 3)
        self.gives(1, "box", 3)
        self.gives(0, "put", 195, 1)
        self.gives(1, "handbox", 1, 3, 4)
        self.gives(500, "lose", 195)
        self.gives(0, "handbox", 1, 4, 5)
        self.tells([1, 0, 3, 4], "chain", 195)

    def test_refused_ones_are_none(self):
        self.gives(195, "sample", 1, 500, 3)
        self.gives(-5, "hand", 195, 3, 3)
        self.gives(-5, "hand", 195, 4, 3)
        self.gives(-1, "hand", 195, 3, 6)
        self.tells([0], "chain", 195)

    def test_a_whole_line_of_them(self):
        self.gives(195, "sample", 1, 500, 0)
        told = []
        for turn in range(198):
            self.gives(0, "hand", 195, turn % 2, 1 - turn % 2)
            told += [0, turn % 2, 1 - turn % 2]
        self.tells([198] + told, "chain", 195)

    def test_refusals(self):
        self.gives(-2, "chain", 195)
        self.gives(195, "sample", 1, 500, 3)
        for label in (-1, 1000000, LEAST, GREATEST):
            self.gives(-1, "chain", label)
        for label in (0, 196, 999999):
            self.gives(-2, "chain", label)


class Label(LineTest):
    def test_some(self):
        for k, label in ((0, 98), (1, 195), (32, 3202), (97, 9798), (1234, 123482), (9999, 999974)):
            self.gives(label, "label", k)

    def test_it_is_that_of_the_sample_and_no_matter_if_it_is_there(self):
        self.gives(583, "label", 5)
        self.gives(583, "sample", 5, 10, 0)
        self.gives(583, "label", 5)
        self.gives(10, "lose", 583)
        self.gives(583, "label", 5)

    def test_numbers_out_of_their_range(self):
        for k in (-1, 10000, LEAST, GREATEST):
            self.gives(-1, "label", k)


class Read(LineTest):
    """Labels: 0 000098, 1 000195, 2 000292, 10 001068, 32 003202, 1234 123482, 9999 999974."""

    def made(self):
        for k in (9999, 32, 1, 1234, 0, 10, 2):
            self.ask("sample", k, 10, 0)

    def test_all_rising(self):
        self.made()
        self.tells([7, 98, 195, 292, 1068, 3202, 123482, 999974], "read", "??????")

    def test_digits_and_zeros_in_front(self):
        self.made()
        self.tells([1, 98], "read", "000098")
        self.tells([1, 98], "read", "0000??")
        self.tells([3, 98, 195, 292], "read", "000???")
        self.tells([3, 98, 195, 292], "read", "????9?")
        self.tells([3, 292, 3202, 123482], "read", "?????2")
        self.tells([1, 123482], "read", "1?????")
        self.tells([1, 123482], "read", "123482")
        self.tells([1, 999974], "read", "9?9?7?")
        self.tells([0], "read", "98????")
        self.tells([0], "read", "000099")
        self.tells([0], "read", "?????9")
        self.tells([1, 3202], "read", "0?3?0?")

    def test_each_place_counts(self):
        self.made()
        for place, digit in enumerate("123482"):
            pattern = "?" * place + digit + "?" * (5 - place)
            self.assertIn(123482, self.ask("read", pattern)[1:])
            other = "?" * place + str((int(digit) + 1) % 10) + "?" * (5 - place)
            self.assertNotIn(123482, self.ask("read", other)[1:])

    def test_gone_and_split_and_boxed_ones_too(self):
        self.gives(195, "sample", 1, 10, 0)
        self.gives(98, "split", 195, 0, 4)
        self.gives(1, "box", 0)
        self.gives(0, "put", 98, 1)
        self.gives(0, "seal", 1, 1)
        self.gives(6, "lose", 195)
        self.tells([2, 98, 195], "read", "000???")

    def test_no_pieces(self):
        self.tells([0], "read", "??????")

    def test_forty_pieces(self):
        for k in range(40):
            self.ask("sample", 9999 - k, 10, 0)
        self.tells([40] + [label_of(9999 - k) for k in reversed(range(40))], "read", "??????")

    def test_no_pattern(self):
        self.made()
        for text in ("", "?", "?????", "???????", "00009", "0000098", "?????? ", " ??????", "??? ???", "?????? ??????",
                     "00009a", "00009/", "00009:", "00009>", "00009@", "00009 ", "-00098", "+00098", "00009.",
                     "00009*", "?????\n", "\0" * 6, "\xff" * 6, "?" * 60, " " * 6, "00009\xb2"):
            self.gives(-4, "read", text)

    def test_texts_out_of_their_range(self):
        self.made()
        for text in ("?" * 61, "?" * 98, [63] * 5 + [256], [-1], [256], [LEAST] * 6, [GREATEST] * 6,
                     [63] * 59 + [-1], [63 + 256] * 6, [LEAST] * 98):
            self.gives(-1, "read", text)
        self.gives(-4, "read", [0] * 60)
        self.gives(-4, "read", [255] * 60)
        self.tells([1, 98], "read", [48, 48, 48, 48, 57, 56])


if __name__ == "__main__":
    unittest.main()
