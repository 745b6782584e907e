"""Promises 0 to 3: sample, split, use, lose."""

import unittest

from rocksamples.labels import label_of
from tests.calling import LineTest


class Sample(LineTest):
    def test_a_new_piece(self):
        self.gives(195, "sample", 1, 500, 3)
        self.assertEqual(self.piece(195), (-1, 500, 500, 0, 0, False, 3, 0, 0))

    def test_the_least_and_the_greatest_arguments(self):
        self.gives(98, "sample", 0, 1, 0)
        self.gives(999974, "sample", 9999, 1000000000, 5)
        self.assertEqual(self.piece(98), (-1, 1, 1, 0, 0, False, 0, 0, 0))
        self.assertEqual(self.piece(999974), (-1, 1000000000, 1000000000, 0, 0, False, 5, 0, 0))

    def test_a_label_that_is_there(self):
        self.gives(195, "sample", 1, 500, 3)
        self.gives(-4, "sample", 1, 7, 2)

    def test_a_label_that_is_gone_is_there(self):
        self.gives(195, "sample", 1, 500, 3)
        self.gives(500, "lose", 195)
        self.gives(-4, "sample", 1, 7, 2)

    def test_a_label_of_a_split_piece_is_there(self):
        self.gives(195, "sample", 1, 500, 3)
        self.gives(292, "split", 195, 2, 100)
        self.gives(-4, "sample", 2, 7, 2)

    def test_forty_pieces(self):
        for k in range(40):
            self.gives(label_of(k), "sample", k, 10, 0)
        self.gives(-5, "sample", 40, 10, 0)
        self.gives(-4, "sample", 39, 10, 0)

    def test_gone_and_split_ones_count_among_the_forty(self):
        self.gives(98, "sample", 0, 1000, 0)
        for k in range(1, 40):
            self.gives(label_of(k), "split", 98, k, 10)
        self.gives(610, "lose", 98)
        self.gives(-5, "sample", 40, 10, 0)
        self.gives(-4, "sample", 0, 10, 0)


class Split(LineTest):
    def test_of_a_loose_piece(self):
        self.gives(195, "sample", 1, 500, 3)
        self.gives(292, "split", 195, 2, 120)
        self.assertEqual(self.piece(195), (-1, 500, 380, 0, 0, False, 3, 0, 0))
        self.assertEqual(self.piece(292), (195, 120, 120, 0, 0, False, 3, 0, 0))

    def test_of_a_split_piece_that_was_handed_over(self):
        self.gives(195, "sample", 1, 500, 3)
        self.gives(292, "split", 195, 2, 120)
        self.gives(0, "hand", 292, 3, 4)
        self.gives(389, "split", 292, 3, 20)
        self.assertEqual(self.piece(292), (195, 120, 100, 0, 0, False, 4, 0, 0))
        self.assertEqual(self.piece(389), (292, 20, 20, 0, 0, False, 4, 0, 0))
        self.gives(-5, "hand", 389, 3, 4)
        self.gives(0, "hand", 389, 4, 3)

    def test_in_a_box_that_was_handed_over(self):
        self.gives(195, "sample", 1, 500, 3)
        self.gives(1, "box", 3)
        self.gives(2, "box", 3)
        self.gives(0, "put", 195, 1)
        self.gives(0, "nest", 1, 2)
        self.gives(1, "handbox", 2, 3, 5)
        self.gives(292, "split", 195, 2, 120)
        self.assertEqual(self.piece(292), (195, 120, 120, 0, 0, False, 5, 1, 0))
        self.gives(2, "handbox", 2, 5, 0)
        self.gives(0, "take", 292)

    def test_has_as_many_warm_minutes(self):
        self.gives(195, "sample", 1, 500, 3)
        self.store.pieces[195].warm = 77
        self.ask("split", 195, 2, 120)
        self.assertEqual(self.piece(292), (195, 120, 120, 0, 0, False, 3, 0, 77))

    def test_not_reachable(self):
        self.gives(195, "sample", 1, 500, 3)
        self.gives(1, "box", 3)
        self.gives(0, "put", 195, 1)
        self.gives(0, "seal", 1, 9)
        self.gives(-4, "split", 195, 2, 120)

    def test_not_reachable_for_a_box_around(self):
        self.gives(195, "sample", 1, 500, 3)
        self.gives(1, "box", 3)
        self.gives(2, "box", 3)
        self.gives(0, "put", 195, 1)
        self.gives(0, "nest", 1, 2)
        self.gives(0, "seal", 2, 9)
        self.gives(-4, "split", 195, 2, 120)
        self.gives(0, "open", 2, 9)
        self.gives(292, "split", 195, 2, 120)

    def test_it_must_have_more(self):
        self.gives(195, "sample", 1, 500, 3)
        self.gives(-5, "split", 195, 2, 501)
        self.gives(-5, "split", 195, 2, 500)
        self.gives(292, "split", 195, 2, 499)
        self.gives(-5, "split", 195, 3, 1)

    def test_a_label_that_is_there(self):
        self.gives(195, "sample", 1, 500, 3)
        self.gives(292, "sample", 2, 500, 3)
        self.gives(-6, "split", 195, 1, 100)
        self.gives(-6, "split", 195, 2, 100)
        self.gives(500, "lose", 292)
        self.gives(-6, "split", 195, 2, 100)

    def test_forty_pieces(self):
        self.gives(98, "sample", 0, 1000, 0)
        for k in range(1, 40):
            self.gives(label_of(k), "split", 98, k, 10)
        self.gives(-7, "split", 98, 40, 10)
        self.gives(-6, "split", 98, 39, 10)
        self.gives(10, "lose", 195)
        self.gives(-7, "split", 98, 40, 10)

    def test_which_refusal_comes_first(self):
        self.gives(98, "sample", 0, 100, 0)
        for k in range(1, 40):
            self.gives(label_of(k), "sample", k, 100, 0)
        self.gives(1, "box", 0)
        self.gives(0, "put", 98, 1)
        self.gives(0, "seal", 1, 1)
        self.gives(-4, "split", 98, 1, 100)
        self.gives(-4, "split", 98, 40, 1)
        self.gives(0, "open", 1, 1)
        self.gives(-5, "split", 98, 1, 100)
        self.gives(-5, "split", 98, 40, 100)
        self.gives(-6, "split", 98, 1, 99)
        self.gives(-7, "split", 98, 40, 99)

    def test_no_such_piece_and_a_gone_one(self):
        self.gives(-2, "split", 195, 1, 1)
        self.gives(195, "sample", 1, 500, 3)
        self.gives(500, "lose", 195)
        self.gives(-3, "split", 195, 1, 1)
        self.gives(-2, "split", 196, 1, 1)


class Use(LineTest):
    def test_of_a_loose_piece(self):
        self.gives(195, "sample", 1, 500, 3)
        self.gives(380, "use", 195, 120)
        self.gives(350, "use", 195, 30)
        self.assertEqual(self.piece(195), (-1, 500, 350, 150, 0, False, 3, 0, 0))

    def test_of_all_that_is_left(self):
        self.gives(195, "sample", 1, 1, 3)
        self.gives(0, "use", 195, 1)
        self.assertEqual(self.piece(195), (-1, 1, 0, 1, 0, True, 3, 0, 0))
        self.gives(-3, "use", 195, 1)

    def test_of_all_in_a_box_leaves_the_box_with_who_held_it(self):
        self.gives(195, "sample", 1, 500, 3)
        self.gives(1, "box", 3)
        self.gives(2, "box", 3)
        self.gives(0, "put", 195, 1)
        self.gives(0, "nest", 1, 2)
        self.gives(1, "handbox", 2, 3, 4)
        self.gives(0, "use", 195, 500)
        self.assertEqual(self.piece(195), (-1, 500, 0, 500, 0, True, 4, 0, 0))
        self.gives(0, "handbox", 2, 4, 5)
        self.assertEqual(self.piece(195), (-1, 500, 0, 500, 0, True, 4, 0, 0))

    def test_of_a_part_in_a_box_stays_there(self):
        self.gives(195, "sample", 1, 500, 3)
        self.gives(1, "box", 3)
        self.gives(0, "put", 195, 1)
        self.gives(1, "use", 195, 499)
        self.assertEqual(self.piece(195), (-1, 500, 1, 499, 0, False, 3, 1, 0))

    def test_it_has_less(self):
        self.gives(195, "sample", 1, 500, 3)
        self.gives(-5, "use", 195, 501)
        self.gives(-5, "use", 195, 1000000000)
        self.gives(1, "use", 195, 499)
        self.gives(-5, "use", 195, 2)

    def test_not_reachable_comes_first(self):
        self.gives(195, "sample", 1, 500, 3)
        self.gives(1, "box", 3)
        self.gives(2, "box", 3)
        self.gives(0, "put", 195, 1)
        self.gives(0, "seal", 1, 7)
        self.gives(-4, "use", 195, 500)
        self.gives(-4, "use", 195, 501)
        self.gives(0, "open", 1, 7)
        self.gives(0, "nest", 1, 2)
        self.gives(0, "seal", 2, 7)
        self.gives(-4, "use", 195, 500)

    def test_no_such_piece_and_a_gone_one(self):
        self.gives(-2, "use", 195, 1)
        self.gives(195, "sample", 1, 500, 3)
        self.gives(500, "lose", 195)
        self.gives(-3, "use", 195, 1)


class Lose(LineTest):
    def test_of_a_loose_piece(self):
        self.gives(195, "sample", 1, 500, 3)
        self.gives(400, "use", 195, 100)
        self.gives(292, "split", 195, 2, 50)
        self.gives(350, "lose", 195)
        self.assertEqual(self.piece(195), (-1, 500, 0, 100, 350, True, 3, 0, 0))
        self.assertEqual(self.piece(292), (195, 50, 50, 0, 0, False, 3, 0, 0))

    def test_out_of_a_sealed_box_that_was_handed_over(self):
        self.gives(195, "sample", 1, 1000000000, 3)
        self.gives(1, "box", 3)
        self.gives(2, "box", 3)
        self.gives(0, "put", 195, 1)
        self.gives(0, "seal", 1, 7)
        self.gives(0, "nest", 1, 2)
        self.gives(0, "seal", 2, 8)
        self.gives(1, "handbox", 2, 3, 0)
        self.gives(1000000000, "lose", 195)
        self.assertEqual(self.piece(195), (-1, 1000000000, 0, 0, 1000000000, True, 0, 0, 0))
        self.assertEqual(self.box(1), (0, 2, 7, False, False))
        self.gives(0, "handbox", 2, 0, 1)

    def test_no_such_piece_and_a_gone_one(self):
        self.gives(-2, "lose", 195)
        self.gives(195, "sample", 1, 500, 3)
        self.gives(500, "lose", 195)
        self.gives(-3, "lose", 195)


if __name__ == "__main__":
    unittest.main()
