"""Promise 14, and the calls frost and warm: minutes, what's cold, and what was warm for how long."""

import unittest

from rocksamples.samples import answers
from tests.calling import GREATEST, LEAST, LineTest, as_call, told_apart


class Pass(LineTest):
    def test_the_minute_that_it_is_now(self):
        self.gives(1, "pass", 1)
        self.gives(100001, "pass", 100000)
        self.gives(100002, "pass", 1)

    def test_minutes_out_of_their_range(self):
        for minutes in (0, 100001, -1, LEAST, GREATEST):
            self.gives(-1, "pass", minutes)
        self.gives(7, "pass", 7)

    def test_a_piece_grows_warm_from_when_it_is_there(self):
        self.gives(10, "pass", 10)
        self.gives(195, "sample", 1, 500, 3)
        self.gives(15, "pass", 5)
        self.gives(292, "sample", 2, 500, 3)
        self.gives(18, "pass", 3)
        self.tells([-1, 500, 500, 0, 0, 0, 3, 0, 8], "piece", 195)
        self.tells([-1, 500, 500, 0, 0, 0, 3, 0, 3], "piece", 292)

    def test_a_split_piece_has_as_many_and_then_its_own(self):
        self.gives(195, "sample", 1, 500, 3)
        self.gives(1, "box", 3)
        self.gives(0, "frost", 1, 1)
        self.gives(5, "pass", 5)
        self.gives(292, "split", 195, 2, 100)
        self.gives(0, "put", 195, 1)
        self.gives(9, "pass", 4)
        self.assertEqual((self.piece(195)[8], self.piece(292)[8]), (5, 9))

    def test_a_gone_piece_grows_no_warmer(self):
        self.gives(195, "sample", 1, 500, 3)
        self.gives(292, "sample", 2, 500, 3)
        self.gives(5, "pass", 5)
        self.gives(500, "lose", 195)
        self.gives(0, "use", 292, 500)
        self.gives(11, "pass", 6)
        self.tells([-1, 500, 0, 0, 500, 1, 3, 0, 5], "piece", 195)
        self.tells([-1, 500, 0, 500, 0, 1, 3, 0, 5], "piece", 292)

    def test_in_a_box_without_frost_sealed_or_not(self):
        self.gives(195, "sample", 1, 500, 3)
        self.boxes(2, 3)
        self.gives(0, "put", 195, 1)
        self.gives(0, "nest", 1, 2)
        self.gives(5, "pass", 5)
        self.gives(0, "seal", 2, 8)
        self.gives(6, "pass", 1)
        self.assertEqual(self.piece(195)[8], 6)


class LastMinute(unittest.TestCase):
    """It takes more than 200 calls to get there."""

    NEARLY = as_call("sample", 1, 500, 3) + as_call("pass", 100000) * 9999 + as_call("pass", 99999)

    def after(self, *calls):
        line = list(self.NEARLY)
        for call in calls:
            line += call
        return told_apart(answers(line))[-len(calls) - 1:]

    def test_it_is_reached_and_not_passed(self):
        self.assertEqual(
            self.after(as_call("pass", 1), as_call("pass", 1), as_call("pass", 100000), as_call("pass", 0),
                       as_call("warm", 1000000000), as_call("piece", 195)),
            [[999999999], [1000000000], [-4], [-4], [-1], [1, 195], [-1, 500, 500, 0, 0, 0, 3, 0, 1000000000]])

    def test_a_refused_one_warms_nothing_and_passes_nothing(self):
        self.assertEqual(
            self.after(as_call("pass", 2), as_call("piece", 195), as_call("warm", 1000000000),
                       as_call("hand", 195, 3, 4), as_call("chain", 195), as_call("pass", 1)),
            [[999999999], [-4], [-1, 500, 500, 0, 0, 0, 3, 0, 999999999], [0], [0], [1, 999999999, 3, 4],
             [1000000000]])


class Frost(LineTest):
    def warm_of(self, label):
        return self.ask("piece", label)[8]

    def test_on_and_off(self):
        self.gives(195, "sample", 1, 500, 3)
        self.gives(1, "box", 3)
        self.gives(0, "put", 195, 1)
        self.gives(0, "frost", 1, 0)
        self.gives(1, "pass", 1)
        self.assertEqual(self.warm_of(195), 1)
        self.gives(0, "frost", 1, 1)
        self.gives(0, "frost", 1, 1)
        self.gives(11, "pass", 10)
        self.assertEqual(self.warm_of(195), 1)
        self.gives(0, "frost", 1, 0)
        self.gives(111, "pass", 100)
        self.assertEqual(self.warm_of(195), 101)

    def test_it_leaves_the_rest_of_the_box_and_other_boxes_as_they_were(self):
        self.boxes(3, 4)
        self.gives(0, "nest", 1, 2)
        self.gives(0, "seal", 1, 77)
        self.gives(0, "frost", 1, 1)
        self.tells([4, 2, 77, 1, 0], "told", 1)
        self.tells([4, 0, 0, 0, 1], "told", 2)
        self.tells([4, 0, 0, 0, 1], "told", 3)

    def test_a_sealed_box_and_one_in_a_sealed_box(self):
        self.boxes(2, 4)
        self.gives(0, "nest", 1, 2)
        self.gives(0, "seal", 2, 5)
        self.gives(0, "frost", 1, 1)
        self.gives(0, "frost", 2, 1)
        self.gives(0, "frost", 1, 0)
        self.tells([4, 2, 0, 1, 0], "told", 1)

    def test_boxes_within_boxes(self):
        for k in (1, 2, 3):
            self.ask("sample", k, 500, 3)
        self.boxes(3, 3)
        for number, label in ((1, 195), (2, 292), (3, 389)):
            self.gives(0, "put", label, number)
        self.gives(0, "nest", 1, 2)
        self.gives(0, "nest", 2, 3)
        self.gives(0, "frost", 2, 1)
        self.gives(1, "pass", 1)
        self.assertEqual([self.warm_of(label) for label in (195, 292, 389)], [0, 0, 1])
        self.assertEqual([self.ask("told", number)[3] for number in (1, 2, 3)], [1, 1, 0])
        self.gives(0, "frost", 3, 1)
        self.gives(0, "frost", 2, 0)
        self.gives(11, "pass", 10)
        self.assertEqual([self.warm_of(label) for label in (195, 292, 389)], [0, 0, 1])
        self.assertEqual([self.ask("told", number)[3] for number in (1, 2, 3)], [1, 1, 1])
        self.gives(0, "frost", 3, 0)
        self.gives(0, "frost", 1, 1)
        self.gives(111, "pass", 100)
        self.assertEqual([self.warm_of(label) for label in (195, 292, 389)], [0, 100, 101])

    def test_ten_deep(self):
        self.gives(98, "sample", 0, 1, 2)
        self.boxes(10, 2)
        self.gives(0, "put", 98, 1)
        for number in range(1, 10):
            self.gives(0, "nest", number, number + 1)
        self.gives(0, "frost", 10, 1)
        self.gives(100000, "pass", 100000)
        self.assertEqual(self.warm_of(98), 0)
        self.assertEqual([self.ask("told", number)[3] for number in range(1, 11)], [1] * 10)

    def test_out_of_the_frost(self):
        for k in (1, 2):
            self.ask("sample", k, 500, 3)
        self.boxes(2, 3)
        self.gives(0, "put", 195, 1)
        self.gives(0, "put", 292, 2)
        self.gives(0, "nest", 1, 2)
        self.gives(0, "frost", 2, 1)
        self.gives(3, "unnest", 1)
        self.gives(3, "take", 292)
        self.gives(6, "pass", 6)
        self.assertEqual([self.warm_of(label) for label in (195, 292)], [6, 6])
        self.tells([3, 0, 0, 0, 1], "told", 1)
        self.gives(0, "nest", 1, 2)
        self.gives(7, "pass", 1)
        self.assertEqual([self.warm_of(label) for label in (195, 292)], [6, 7])

    def test_an_unnested_box_keeps_its_own(self):
        self.gives(195, "sample", 1, 500, 3)
        self.boxes(2, 3)
        self.gives(0, "put", 195, 1)
        self.gives(0, "frost", 1, 1)
        self.gives(0, "nest", 1, 2)
        self.gives(3, "unnest", 1)
        self.gives(6, "pass", 6)
        self.assertEqual(self.warm_of(195), 0)
        self.tells([3, 0, 0, 1, 1], "told", 1)

    def test_refusals(self):
        self.gives(-2, "frost", 1, 1)
        for kept in (2, -1, LEAST, GREATEST):
            self.gives(-1, "frost", 1, kept)
        self.gives(1, "box", 3)
        for kept in (2, -1, LEAST, GREATEST):
            self.gives(-1, "frost", 1, kept)
        for number in (0, 11, LEAST, GREATEST):
            self.gives(-1, "frost", number, 1)
        self.gives(-2, "frost", 2, 1)
        self.gives(-2, "frost", 10, 0)


class Warm(LineTest):
    def test_at_least_so_many_rising(self):
        for minutes, k in ((3, 9), (4, 1), (5, 5)):
            self.ask("sample", k, 500, 3)
            self.ask("pass", minutes)
        self.tells([3, 195, 583, 971], "warm", 0)
        self.tells([3, 195, 583, 971], "warm", 5)
        self.tells([2, 195, 971], "warm", 6)
        self.tells([2, 195, 971], "warm", 9)
        self.tells([1, 971], "warm", 10)
        self.tells([1, 971], "warm", 12)
        self.tells([0], "warm", 13)
        self.tells([0], "warm", 1000000000)

    def test_not_the_gone_ones(self):
        for k in (1, 2, 3):
            self.ask("sample", k, 500, 3)
        self.gives(9, "pass", 9)
        self.gives(500, "lose", 195)
        self.gives(0, "use", 389, 500)
        self.tells([1, 292], "warm", 0)
        self.tells([1, 292], "warm", 9)

    def test_those_that_never_were_warm(self):
        self.tells([0], "warm", 0)
        self.gives(195, "sample", 1, 500, 3)
        self.tells([1, 195], "warm", 0)
        self.tells([0], "warm", 1)

    def test_those_in_boxes_too(self):
        for k in (1, 2):
            self.ask("sample", k, 500, 3)
        self.boxes(2, 3)
        self.gives(0, "put", 195, 1)
        self.gives(0, "put", 292, 2)
        self.gives(0, "seal", 1, 1)
        self.gives(0, "frost", 2, 1)
        self.gives(4, "pass", 4)
        self.tells([1, 195], "warm", 4)
        self.tells([2, 195, 292], "warm", 0)

    def test_minutes_out_of_their_range(self):
        for minutes in (-1, 1000000001, LEAST, GREATEST):
            self.gives(-1, "warm", minutes)


if __name__ == "__main__":
    unittest.main()
