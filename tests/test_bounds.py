"""bounds: point 13."""

import unittest

from tests.calls import ALWAYS, LATEST, bounds, delete, insert, last, make, set_


class Bounds(unittest.TestCase):
    def test_table_without_rows(self):
        self.assertEqual(last(make(0, 2, 1), bounds(0)), [0])

    def test_rows_that_are_gone(self):
        calls = [make(0, 2, 1), insert(0, [1, 5], [3, 9]), delete(0, [1], ALWAYS)]
        self.assertEqual(last(*calls, bounds(0)), [0])

    def test_begins_and_ends(self):
        calls = [make(0, 2, 1), insert(0, [1, 5], [3, 9, 12]), insert(0, [2, 5], [4, 7])]
        self.assertEqual(last(*calls, bounds(0)), [5, 3, 4, 7, 9, 12])

    def test_moment_0_counts_if_rows_hold_then(self):
        self.assertEqual(last(make(0, 1, 1), insert(0, [1], [0, 9]), bounds(0)), [2, 0, 9])
        self.assertEqual(last(make(0, 1, 1), insert(0, [1], [0]), bounds(0)), [1, 0])
        self.assertEqual(last(make(0, 1, 1), insert(0, [1], [1]), bounds(0)), [1, 1])

    def test_one_row_ends_and_another_begins(self):
        # As many rows hold behind 5 as before it, but not the same ones.
        calls = [make(0, 1, 1), insert(0, [1], [3, 5]), insert(0, [2], [5, 9])]
        self.assertEqual(last(*calls, bounds(0)), [3, 3, 5, 9])

    def test_a_row_with_the_key_gives_way_to_another(self):
        calls = [make(0, 2, 1), insert(0, [1, 5], [3, 9]), set_(0, 1, 6, [1], [4])]
        self.assertEqual(last(*calls, bounds(0)), [3, 3, 4, 9])

    def test_several_rows_at_one_moment_are_told_once(self):
        calls = [make(0, 1, 1), insert(0, [1], [3, 9]), insert(0, [2], [3, 9]), insert(0, [3], [9])]
        self.assertEqual(last(*calls, bounds(0)), [2, 3, 9])

    def test_moment_at_which_nothing_is_different(self):
        calls = [make(0, 2, 1), insert(0, [1, 5], [3, 6]), insert(0, [1, 5], [6, 9]), set_(0, 1, 5, [1], [4, 5])]
        self.assertEqual(last(*calls, bounds(0)), [2, 3, 9])

    def test_latest_moment(self):
        self.assertEqual(last(make(0, 1, 1), insert(0, [1], [LATEST]), bounds(0)), [1, LATEST])

    def test_order_of_many(self):
        calls = [make(0, 1, 1)] + [insert(0, [row], [100 - row, 1000 + row]) for row in range(30)]
        self.assertEqual(last(*calls, bounds(0)), [60] + list(range(71, 101)) + list(range(1000, 1030)))
