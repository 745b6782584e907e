"""Promises 11 and 12: hand and handbox."""

import unittest

from tests.calling import LineTest


class Hand(LineTest):
    def test_to_another(self):
        self.gives(195, "sample", 1, 500, 0)
        self.gives(0, "hand", 195, 0, 5)
        self.assertEqual(self.piece(195), (-1, 500, 500, 0, 0, False, 5, 0, 0))
        self.gives(0, "hand", 195, 5, 0)
        self.assertEqual(self.store.handings, [(0, 0, 5, [195]), (0, 5, 0, [195])])

    def test_the_others_stay(self):
        self.gives(195, "sample", 1, 500, 3)
        self.gives(292, "split", 195, 2, 100)
        self.gives(0, "hand", 292, 3, 4)
        self.gives(-5, "hand", 195, 4, 3)
        self.gives(0, "hand", 195, 3, 4)

    def test_it_is_in_a_box(self):
        self.gives(195, "sample", 1, 500, 3)
        self.gives(1, "box", 3)
        self.gives(0, "put", 195, 1)
        self.gives(-4, "hand", 195, 3, 4)
        self.gives(-4, "hand", 195, 4, 3)
        self.gives(-4, "hand", 195, 3, 3)

    def test_not_from_who_holds_it(self):
        self.gives(195, "sample", 1, 500, 3)
        self.gives(-5, "hand", 195, 4, 3)
        self.gives(-5, "hand", 195, 0, 5)
        self.gives(-5, "hand", 195, 4, 4)

    def test_to_oneself(self):
        self.gives(195, "sample", 1, 500, 3)
        self.gives(-5, "hand", 195, 3, 3)

    def test_no_such_piece_and_a_gone_one(self):
        self.gives(-2, "hand", 195, 3, 4)
        self.gives(-2, "hand", 195, 3, 3)
        self.gives(195, "sample", 1, 500, 3)
        self.gives(500, "lose", 195)
        self.gives(-3, "hand", 195, 3, 4)

    def test_a_whole_line_of_them(self):
        self.gives(195, "sample", 1, 500, 0)
        for turn in range(199):
            self.gives(0, "hand", 195, turn % 2, 1 - turn % 2)
        self.assertEqual(len(self.store.handings), 199)


class Handbox(LineTest):
    def test_an_empty_one(self):
        self.gives(1, "box", 0)
        self.gives(0, "handbox", 1, 0, 5)
        self.assertEqual(self.box(1), (5, 0, 0, False, True))
        self.assertEqual(self.store.handings, [(0, 0, 5, [])])

    def test_with_all_that_lies_in_it_rising(self):
        for k in (4, 1, 3, 2, 0):
            self.ask("sample", k, 10, 3)
        for number in range(1, 5):
            self.gives(number, "box", 3)
        self.gives(0, "put", 486, 3)
        self.gives(0, "put", 195, 1)
        self.gives(0, "put", 389, 2)
        self.gives(0, "put", 292, 4)
        self.gives(0, "nest", 1, 2)
        self.gives(0, "nest", 2, 3)
        self.gives(3, "handbox", 3, 3, 1)
        self.assertEqual(self.store.handings, [(0, 3, 1, [195, 389, 486])])
        self.assertEqual([self.piece(label)[6] for label in (98, 195, 292, 389, 486)], [3, 1, 3, 1, 1])
        self.assertEqual([self.box(number)[0] for number in range(1, 5)], [1, 1, 1, 3])

    def test_a_sealed_one(self):
        self.gives(195, "sample", 1, 500, 3)
        self.gives(1, "box", 3)
        self.gives(0, "put", 195, 1)
        self.gives(0, "seal", 1, 9)
        self.gives(1, "handbox", 1, 3, 4)
        self.assertEqual(self.box(1), (4, 0, 9, False, False))

    def test_a_piece_that_is_gone_or_taken_is_not_in_it(self):
        self.gives(195, "sample", 1, 500, 3)
        self.gives(292, "sample", 2, 500, 3)
        self.gives(389, "sample", 3, 500, 3)
        self.gives(1, "box", 3)
        for label in (195, 292, 389):
            self.gives(0, "put", label, 1)
        self.gives(500, "lose", 195)
        self.gives(3, "take", 292)
        self.gives(1, "handbox", 1, 3, 4)
        self.assertEqual(self.store.handings, [(0, 3, 4, [389])])

    def test_it_is_in_a_box(self):
        self.gives(1, "box", 3)
        self.gives(2, "box", 3)
        self.gives(0, "nest", 1, 2)
        self.gives(-4, "handbox", 1, 3, 4)
        self.gives(-4, "handbox", 1, 4, 3)
        self.gives(-4, "handbox", 1, 3, 3)

    def test_not_from_who_holds_it(self):
        self.gives(1, "box", 3)
        self.gives(-5, "handbox", 1, 4, 3)
        self.gives(-5, "handbox", 1, 4, 4)

    def test_to_oneself(self):
        self.gives(1, "box", 3)
        self.gives(-5, "handbox", 1, 3, 3)

    def test_no_such_box(self):
        self.gives(-2, "handbox", 1, 3, 4)
        self.gives(1, "box", 3)
        self.gives(-2, "handbox", 2, 3, 4)


class TwoHundred(LineTest):
    """Handings over of both kinds, one each, count together. (The line is longer than 200 calls: it
    takes at least one more call to have something to hand over.)"""

    def hand_both(self, turns):
        self.gives(195, "sample", 1, 500, 0)
        self.gives(292, "sample", 2, 500, 0)
        self.gives(389, "sample", 3, 500, 0)
        self.gives(1, "box", 0)
        self.gives(0, "put", 292, 1)
        self.gives(0, "put", 389, 1)
        for turn in range(turns):
            self.gives(0, "hand", 195, turn % 2, 1 - turn % 2)
            self.gives(2, "handbox", 1, turn % 2, 1 - turn % 2)

    def test_then_no_more(self):
        self.hand_both(100)
        self.gives(-6, "hand", 195, 0, 1)
        self.gives(-6, "handbox", 1, 0, 1)

    def test_the_last_one(self):
        self.hand_both(99)
        self.gives(0, "hand", 195, 1, 0)
        self.gives(2, "handbox", 1, 1, 0)
        self.gives(-6, "hand", 195, 0, 1)
        self.gives(-6, "handbox", 1, 0, 1)

    def test_the_other_refusals_come_first(self):
        self.hand_both(100)
        self.gives(2, "box", 0)
        self.gives(-5, "hand", 195, 1, 0)
        self.gives(-5, "hand", 195, 0, 0)
        self.gives(-5, "handbox", 1, 1, 0)
        self.gives(-5, "handbox", 1, 0, 0)
        self.gives(-4, "hand", 292, 0, 1)
        self.gives(0, "nest", 1, 2)
        self.gives(-4, "handbox", 1, 0, 1)

    def test_empty_boxes_count_too(self):
        self.gives(1, "box", 0)
        for turn in range(200):
            self.gives(0, "handbox", 1, turn % 2, 1 - turn % 2)
        self.gives(-6, "handbox", 1, 0, 1)

    def test_refused_ones_do_not_count(self):
        self.gives(1, "box", 0)
        for turn in range(100):
            self.gives(0, "handbox", 1, turn % 2, 1 - turn % 2)
            self.gives(-5, "handbox", 1, turn % 2, 1 - turn % 2)
        for turn in range(100):
            self.gives(0, "handbox", 1, turn % 2, 1 - turn % 2)
        self.gives(-6, "handbox", 1, 0, 1)


if __name__ == "__main__":
    unittest.main()
