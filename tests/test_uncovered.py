"""uncovered: point 17."""

import unittest

from tests.calls import HUGE, LARGE, held, insert, last, make, uncovered

BEGUN = [make(0, 2, 1), make(1, 3, 1)]


class Uncovered(unittest.TestCase):
    def test_no_row(self):
        self.assertEqual(last(*BEGUN, uncovered(0, 1, 1)), [0])

    def test_no_row_with_that_key(self):
        calls = BEGUN + [insert(0, [1, 5], [3, 9]), insert(1, [6, 5, 5], [0])]
        self.assertEqual(last(*calls, uncovered(0, 1, 1)), [2, 3, 9])

    def test_covered_for_a_while(self):
        calls = BEGUN + [insert(0, [1, 5], [3, 9]), insert(1, [5, 0, 0], [4, 6, 8])]
        self.assertEqual(last(*calls, uncovered(0, 1, 1)), [4, 3, 4, 6, 8])

    def test_covered_always(self):
        calls = BEGUN + [insert(0, [1, 5], [3, 9]), insert(1, [5, 0, 0], [3, 9])]
        self.assertEqual(last(*calls, uncovered(0, 1, 1)), [0])

    def test_covered_by_several_rows_with_the_key(self):
        calls = BEGUN + [insert(0, [1, 5], [3, 9]), insert(1, [5, 0, 0], [3, 6]), insert(1, [5, 1, 0], [6, 9])]
        self.assertEqual(last(*calls, uncovered(0, 1, 1)), [0])

    def test_some_row_is_enough(self):
        calls = BEGUN + [insert(0, [1, 5], [3, 9]), insert(0, [2, 6], [8]), insert(1, [5, 0, 0], [0])]
        self.assertEqual(last(*calls, uncovered(0, 1, 1)), [1, 8])

    def test_touching_pieces_are_one(self):
        calls = BEGUN + [insert(0, [1, 5], [3, 9]), insert(0, [2, 6], [9, 12])]
        self.assertEqual(last(*calls, uncovered(0, 1, 1)), [2, 3, 12])

    def test_key_column(self):
        calls = BEGUN + [insert(0, [1, 5], [3, 9]), insert(1, [1, 0, 0], [3, 8])]
        self.assertEqual(last(*calls, uncovered(0, 0, 1)), [2, 8, 9])

    def test_one_table_twice(self):
        calls = BEGUN + [insert(0, [1, 2], [3, 9]), insert(0, [2, 2], [4, 6])]
        self.assertEqual(last(*calls, uncovered(0, 0, 0)), [0])
        self.assertEqual(last(*calls, uncovered(0, 1, 0)), [4, 3, 4, 6, 9])

    def test_first_table_may_have_a_wider_key(self):
        calls = [make(0, 3, 2), make(1, 1, 1), insert(0, [1, 2, 3], [3, 9]), insert(1, [2], [5])]
        self.assertEqual(last(*calls, uncovered(0, 1, 1)), [2, 3, 5])

    def test_changes_nothing(self):
        calls = BEGUN + [insert(0, [1, 5], [3, 9]), insert(1, [5, 0, 0], [4, 6]), uncovered(0, 1, 1)]
        self.assertEqual(held(calls, 0, (2, 1), [[1, 5]]), {(1, 5): [3, 9]})
        self.assertEqual(held(calls, 1, (3, 1), [[5, 0, 0]]), {(5, 0, 0): [4, 6]})

    def test_greatest_and_smallest_numbers(self):
        calls = BEGUN + [insert(0, [1, LARGE], [3, 9]), insert(0, [2, -LARGE], [3, 9]), insert(1, [LARGE, 0, 0], [0])]
        self.assertEqual(last(*calls, uncovered(0, 1, 1)), [2, 3, 9])
        self.assertEqual(last(*calls, insert(1, [-LARGE, 0, 0], [5]), uncovered(0, 1, 1)), [2, 3, 5])


class UncoveredRefused(unittest.TestCase):
    def test_out_of_range(self):
        for wrong in (-HUGE, -1, 4, HUGE):
            self.assertEqual(last(*BEGUN, uncovered(wrong, HUGE, 1)), [-1])
            self.assertEqual(last(*BEGUN, uncovered(3, HUGE, wrong)), [-1])

    def test_not_made(self):
        self.assertEqual(last(*BEGUN, uncovered(2, HUGE, 1)), [-2])
        self.assertEqual(last(*BEGUN, uncovered(0, HUGE, 2)), [-2])

    def test_key_width_of_the_other_table(self):
        self.assertEqual(last(*BEGUN, make(2, 2, 2), uncovered(0, HUGE, 2)), [-3])
        self.assertEqual(last(make(0, 2, 2), make(1, 2, 2), uncovered(0, 0, 1)), [-3])

    def test_column(self):
        for wrong in (-HUGE, -1, 2, HUGE):
            self.assertEqual(last(*BEGUN, uncovered(0, wrong, 1)), [-4])
