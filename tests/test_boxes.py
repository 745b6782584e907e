"""Promises 4 to 10: box, put, take, nest, unnest, seal, open."""

import unittest

from tests.calling import LineTest


class MakeBox(LineTest):
    def test_they_are_numbered_as_they_come(self):
        self.gives(1, "box", 5)
        self.gives(2, "box", 0)
        self.assertEqual(self.box(1), (5, 0, 0, False, True))
        self.assertEqual(self.box(2), (0, 0, 0, False, True))

    def test_ten(self):
        for number in range(1, 11):
            self.gives(number, "box", number % 6)
        self.gives(-5, "box", 0)
        self.gives(0, "seal", 10, 1)


class Put(LineTest):
    def test_into_a_box(self):
        self.gives(195, "sample", 1, 500, 3)
        self.gives(1, "box", 3)
        self.gives(0, "put", 195, 1)
        self.assertEqual(self.piece(195), (-1, 500, 500, 0, 0, False, 3, 1, 0))
        self.gives(1, "handbox", 1, 3, 2)
        self.assertEqual(self.piece(195), (-1, 500, 500, 0, 0, False, 2, 1, 0))

    def test_it_is_in_a_box(self):
        self.gives(195, "sample", 1, 500, 3)
        self.gives(1, "box", 3)
        self.gives(2, "box", 3)
        self.gives(0, "put", 195, 1)
        self.gives(-4, "put", 195, 1)
        self.gives(-4, "put", 195, 2)

    def test_the_box_is_not_open(self):
        self.gives(195, "sample", 1, 500, 3)
        self.gives(1, "box", 3)
        self.gives(2, "box", 3)
        self.gives(0, "nest", 1, 2)
        self.gives(0, "seal", 2, 4)
        self.gives(-5, "put", 195, 2)
        self.gives(-5, "put", 195, 1)
        self.gives(0, "open", 2, 4)
        self.gives(0, "put", 195, 1)

    def test_a_seal_within_does_not_shut_the_box_around(self):
        self.gives(195, "sample", 1, 500, 3)
        self.gives(1, "box", 3)
        self.gives(2, "box", 3)
        self.gives(0, "nest", 1, 2)
        self.gives(0, "seal", 1, 4)
        self.gives(-5, "put", 195, 1)
        self.gives(0, "put", 195, 2)

    def test_they_are_not_held_by_one_party(self):
        self.gives(195, "sample", 1, 500, 3)
        self.gives(1, "box", 4)
        self.gives(-6, "put", 195, 1)
        self.gives(0, "hand", 195, 3, 4)
        self.gives(0, "put", 195, 1)

    def test_a_nested_box_is_held_by_who_holds_its_outermost(self):
        self.gives(195, "sample", 1, 500, 3)
        self.gives(1, "box", 4)
        self.gives(2, "box", 4)
        self.gives(0, "nest", 1, 2)
        self.gives(-6, "put", 195, 1)
        self.gives(0, "handbox", 2, 4, 3)
        self.gives(0, "put", 195, 1)

    def test_which_refusal_comes_first(self):
        self.gives(195, "sample", 1, 500, 3)
        self.gives(1, "box", 3)
        self.gives(2, "box", 4)
        self.gives(0, "put", 195, 1)
        self.gives(-4, "put", 195, 2)
        self.gives(0, "seal", 2, 4)
        self.gives(-4, "put", 195, 2)
        self.gives(3, "take", 195)
        self.gives(-5, "put", 195, 2)
        self.gives(0, "open", 2, 4)
        self.gives(-6, "put", 195, 2)

    def test_what_is_named_first_comes_first(self):
        self.gives(-2, "put", 195, 1)
        self.gives(195, "sample", 1, 500, 3)
        self.gives(-2, "put", 195, 1)
        self.gives(500, "lose", 195)
        self.gives(-3, "put", 195, 1)
        self.gives(1, "box", 3)
        self.gives(-3, "put", 195, 1)
        self.gives(-2, "put", 196, 1)


class Take(LineTest):
    def test_out_of_a_box(self):
        self.gives(195, "sample", 1, 500, 3)
        self.gives(1, "box", 3)
        self.gives(0, "put", 195, 1)
        self.gives(3, "take", 195)
        self.assertEqual(self.piece(195), (-1, 500, 500, 0, 0, False, 3, 0, 0))
        self.gives(0, "handbox", 1, 3, 4)
        self.assertEqual(self.piece(195), (-1, 500, 500, 0, 0, False, 3, 0, 0))

    def test_out_of_boxes_that_were_handed_over(self):
        self.gives(195, "sample", 1, 500, 3)
        for number in range(1, 4):
            self.gives(number, "box", 3)
        self.gives(0, "put", 195, 1)
        self.gives(0, "nest", 1, 2)
        self.gives(0, "nest", 2, 3)
        self.gives(1, "handbox", 3, 3, 5)
        self.gives(5, "take", 195)
        self.assertEqual(self.piece(195), (-1, 500, 500, 0, 0, False, 5, 0, 0))

    def test_it_is_loose(self):
        self.gives(195, "sample", 1, 500, 3)
        self.gives(-4, "take", 195)

    def test_its_box_is_not_open(self):
        self.gives(195, "sample", 1, 500, 3)
        self.gives(1, "box", 3)
        self.gives(2, "box", 3)
        self.gives(0, "put", 195, 1)
        self.gives(0, "nest", 1, 2)
        self.gives(0, "seal", 2, 1)
        self.gives(-5, "take", 195)
        self.gives(0, "open", 2, 1)
        self.gives(0, "seal", 1, 1)
        self.gives(-5, "take", 195)
        self.gives(0, "open", 1, 1)
        self.gives(3, "take", 195)

    def test_no_such_piece_and_a_gone_one(self):
        self.gives(-2, "take", 195)
        self.gives(195, "sample", 1, 500, 3)
        self.gives(500, "lose", 195)
        self.gives(-3, "take", 195)


class Nest(LineTest):
    def test_one_in_another(self):
        self.gives(1, "box", 3)
        self.gives(2, "box", 3)
        self.gives(0, "nest", 1, 2)
        self.assertEqual(self.box(1), (3, 2, 0, False, True))
        self.assertEqual(self.box(2), (3, 0, 0, False, True))

    def test_a_sealed_one_keeps_its_seal(self):
        self.gives(1, "box", 3)
        self.gives(2, "box", 3)
        self.gives(0, "seal", 1, 9999)
        self.gives(0, "nest", 1, 2)
        self.assertEqual(self.box(1), (3, 2, 9999, False, False))

    def test_ten_deep(self):
        self.gives(98, "sample", 0, 1, 2)
        for number in range(1, 11):
            self.gives(number, "box", 2)
        self.gives(0, "put", 98, 1)
        for number in range(1, 10):
            self.gives(0, "nest", number, number + 1)
        self.gives(-5, "nest", 10, 1)
        self.gives(1, "handbox", 10, 2, 3)
        self.gives(0, "seal", 10, 5)
        self.gives(-5, "take", 98)
        self.gives(-4, "seal", 1, 5)
        self.gives(0, "open", 10, 5)
        self.gives(3, "take", 98)

    def test_it_is_in_a_box(self):
        for number in range(1, 4):
            self.gives(number, "box", 3)
        self.gives(0, "nest", 1, 2)
        self.gives(-4, "nest", 1, 2)
        self.gives(-4, "nest", 1, 3)

    def test_in_itself_or_in_what_lies_in_it(self):
        for number in range(1, 4):
            self.gives(number, "box", 3)
        self.gives(-5, "nest", 1, 1)
        self.gives(0, "nest", 1, 2)
        self.gives(0, "nest", 2, 3)
        self.gives(-5, "nest", 3, 3)
        self.gives(-5, "nest", 3, 2)
        self.gives(-5, "nest", 3, 1)

    def test_the_outer_one_is_not_open(self):
        for number in range(1, 4):
            self.gives(number, "box", 3)
        self.gives(0, "nest", 2, 3)
        self.gives(0, "seal", 3, 8)
        self.gives(-6, "nest", 1, 3)
        self.gives(-6, "nest", 1, 2)
        self.gives(0, "open", 3, 8)
        self.gives(0, "nest", 1, 2)

    def test_they_are_not_held_by_one_party(self):
        self.gives(1, "box", 3)
        self.gives(2, "box", 4)
        self.gives(3, "box", 4)
        self.gives(-7, "nest", 1, 2)
        self.gives(0, "nest", 2, 3)
        self.gives(-7, "nest", 1, 2)
        self.gives(0, "handbox", 3, 4, 3)
        self.gives(0, "nest", 1, 2)

    def test_which_refusal_comes_first(self):
        self.gives(1, "box", 3)
        self.gives(2, "box", 3)
        self.gives(3, "box", 4)
        self.gives(0, "nest", 1, 2)
        self.gives(0, "seal", 3, 1)
        self.gives(-4, "nest", 1, 1)
        self.gives(-4, "nest", 1, 3)
        self.gives(0, "seal", 2, 1)
        self.gives(-5, "nest", 2, 1)
        self.gives(-5, "nest", 2, 2)
        self.gives(-6, "nest", 2, 3)
        self.gives(0, "open", 3, 1)
        self.gives(-7, "nest", 2, 3)

    def test_no_such_box(self):
        self.gives(-2, "nest", 1, 2)
        self.gives(1, "box", 3)
        self.gives(-2, "nest", 1, 2)
        self.gives(-2, "nest", 2, 1)
        self.gives(2, "box", 3)
        self.gives(0, "nest", 2, 1)
        self.gives(-2, "nest", 2, 3)


class Unnest(LineTest):
    def test_it_is_held_by_who_held_it(self):
        for number in range(1, 4):
            self.gives(number, "box", 3)
        self.gives(0, "nest", 1, 2)
        self.gives(0, "nest", 2, 3)
        self.gives(0, "handbox", 3, 3, 5)
        self.gives(5, "unnest", 1)
        self.assertEqual(self.box(1), (5, 0, 0, False, True))
        self.assertEqual(self.box(2), (5, 3, 0, False, True))
        self.gives(0, "handbox", 3, 5, 0)
        self.assertEqual(self.box(1), (5, 0, 0, False, True))

    def test_what_is_in_it_stays_in_it(self):
        self.gives(195, "sample", 1, 500, 3)
        for number in range(1, 4):
            self.gives(number, "box", 3)
        self.gives(0, "put", 195, 1)
        self.gives(0, "nest", 1, 2)
        self.gives(0, "nest", 2, 3)
        self.gives(3, "unnest", 2)
        self.gives(0, "handbox", 3, 3, 0)
        self.gives(1, "handbox", 2, 3, 4)
        self.gives(4, "take", 195)

    def test_its_own_seal_does_not_matter(self):
        self.gives(1, "box", 3)
        self.gives(2, "box", 3)
        self.gives(0, "seal", 1, 6)
        self.gives(0, "nest", 1, 2)
        self.gives(3, "unnest", 1)
        self.assertEqual(self.box(1), (3, 0, 6, False, False))

    def test_it_is_in_no_box(self):
        self.gives(1, "box", 3)
        self.gives(2, "box", 3)
        self.gives(-4, "unnest", 1)
        self.gives(0, "nest", 1, 2)
        self.gives(-4, "unnest", 2)
        self.gives(3, "unnest", 1)
        self.gives(-4, "unnest", 1)

    def test_the_box_around_is_not_open(self):
        for number in range(1, 4):
            self.gives(number, "box", 3)
        self.gives(0, "nest", 1, 2)
        self.gives(0, "nest", 2, 3)
        self.gives(0, "seal", 2, 6)
        self.gives(-5, "unnest", 1)
        self.gives(0, "open", 2, 6)
        self.gives(0, "seal", 3, 6)
        self.gives(-5, "unnest", 1)
        self.gives(-5, "unnest", 2)
        self.gives(0, "open", 3, 6)
        self.gives(3, "unnest", 1)

    def test_no_such_box(self):
        self.gives(-2, "unnest", 1)
        self.gives(1, "box", 3)
        self.gives(-2, "unnest", 2)


class Seal(LineTest):
    def test_the_least_and_the_greatest(self):
        self.gives(1, "box", 3)
        self.gives(2, "box", 3)
        self.gives(0, "seal", 1, 1)
        self.gives(0, "seal", 2, 9999)
        self.assertEqual(self.box(1), (3, 0, 1, False, False))
        self.assertEqual(self.box(2), (3, 0, 9999, False, False))
        self.gives(0, "open", 1, 1)
        self.gives(0, "open", 2, 9999)

    def test_it_has_one(self):
        self.gives(1, "box", 3)
        self.gives(0, "seal", 1, 6)
        self.gives(-4, "seal", 1, 6)
        self.gives(-4, "seal", 1, 7)
        self.gives(-6, "open", 1, 7)

    def test_a_box_around_has_one(self):
        for number in range(1, 4):
            self.gives(number, "box", 3)
        self.gives(0, "nest", 1, 2)
        self.gives(0, "nest", 2, 3)
        self.gives(0, "seal", 3, 6)
        self.gives(-4, "seal", 1, 7)
        self.gives(-4, "seal", 2, 7)

    def test_a_box_within_may_have_one(self):
        self.gives(1, "box", 3)
        self.gives(2, "box", 3)
        self.gives(0, "seal", 1, 6)
        self.gives(0, "nest", 1, 2)
        self.gives(0, "seal", 2, 7)

    def test_no_such_box(self):
        self.gives(-2, "seal", 1, 1)
        self.gives(1, "box", 3)
        self.gives(-2, "seal", 2, 1)
        self.gives(-2, "seal", 10, 9999)


class Open(LineTest):
    def test_it_has_none_then(self):
        self.gives(1, "box", 3)
        self.gives(0, "seal", 1, 6)
        self.gives(0, "open", 1, 6)
        self.assertEqual(self.box(1), (3, 0, 0, False, True))
        self.gives(-4, "open", 1, 6)

    def test_the_boxes_around_are_opened_first(self):
        for number in range(1, 4):
            self.gives(number, "box", 3)
            self.gives(0, "seal", number, number)
        self.gives(0, "open", 2, 2)
        self.gives(0, "open", 3, 3)
        self.gives(0, "nest", 1, 2)
        self.gives(0, "nest", 2, 3)
        self.gives(0, "seal", 3, 33)
        self.gives(-5, "open", 1, 1)
        self.gives(0, "open", 3, 33)
        self.gives(0, "open", 1, 1)

    def test_it_has_no_seal(self):
        self.gives(1, "box", 3)
        self.gives(-4, "open", 1, 1)

    def test_its_seal_is_another(self):
        self.gives(1, "box", 3)
        self.gives(0, "seal", 1, 9998)
        self.gives(-6, "open", 1, 9999)
        self.gives(-6, "open", 1, 9997)
        self.gives(0, "open", 1, 9998)

    def test_which_refusal_comes_first(self):
        for number in range(1, 3):
            self.gives(number, "box", 3)
        self.gives(0, "nest", 1, 2)
        self.gives(0, "seal", 2, 5)
        self.gives(-4, "open", 1, 5)
        self.gives(0, "open", 2, 5)
        self.gives(0, "seal", 1, 4)
        self.gives(0, "seal", 2, 5)
        self.gives(-5, "open", 1, 5)
        self.gives(-5, "open", 1, 4)
        self.gives(0, "open", 2, 5)
        self.gives(-6, "open", 1, 5)

    def test_no_such_box(self):
        self.gives(-2, "open", 1, 1)
        self.gives(1, "box", 3)
        self.gives(-2, "open", 2, 1)


if __name__ == "__main__":
    unittest.main()
