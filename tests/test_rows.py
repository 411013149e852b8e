"""rows: point 10."""

import unittest

from tests.calls import ALWAYS, LARGE, LATEST, delete, insert, last, make, put, rows


class Rows(unittest.TestCase):
    def test_table_without_rows(self):
        self.assertEqual(last(make(0, 2, 1), rows(0)), [0])

    def test_a_row_that_was_never_in(self):
        self.assertEqual(last(make(0, 2, 1), insert(0, [1, 5], []), rows(0)), [0])

    def test_a_row_that_is_gone(self):
        calls = [make(0, 2, 1), insert(0, [1, 5], [3, 9]), delete(0, [1], ALWAYS), rows(0)]
        self.assertEqual(last(*calls), [0])

    def test_bounds_of_each_row(self):
        calls = [make(0, 2, 1), insert(0, [1, 5], [3, 7, 9]), insert(0, [1, 4], [7, 9]), insert(0, [0, 8], [0, LATEST])]
        self.assertEqual(last(*calls, rows(0)), [3, 0, 8, 2, 0, LATEST, 1, 4, 2, 7, 9, 1, 5, 3, 3, 7, 9])

    def test_touching_pieces_are_one(self):
        calls = [make(0, 1, 1), insert(0, [4], [3, 5]), insert(0, [4], [5, 9]), put(0, [4], [8, 12])]
        self.assertEqual(last(*calls, rows(0)), [1, 4, 2, 3, 12])

    def test_order_by_the_first_column_that_differs(self):
        given = [[3, 0], [-2, 5], [0, 1], [-2, -7], [-LARGE, 2], [LARGE, 2], [0, -1]]
        calls = [make(0, 2, 2)] + [insert(0, row, [place]) for place, row in enumerate(given)]
        wanted = [-LARGE, 2, 1, 4, -2, -7, 1, 3, -2, 5, 1, 1, 0, -1, 1, 6, 0, 1, 1, 2, 3, 0, 1, 0, LARGE, 2, 1, 5]
        self.assertEqual(last(*calls, rows(0)), [7] + wanted)

    def test_64_rows_of_64_bounds(self):
        # The longest answer that rows can have: 4545 numbers.
        S = list(range(0, 128, 2))
        calls = [make(0, 6, 1)] + [insert(0, [key, 0, 0, 0, 0, 0], S) for key in range(64)]
        wanted = [number for key in range(64) for number in [key, 0, 0, 0, 0, 0, 64] + S]
        self.assertEqual(last(*calls, rows(0)), [64] + wanted)
