"""cut: point 9."""

import unittest

from tests.calls import HUGE, LARGE, LATEST, cut, insert, last, make

BEGUN = [make(0, 2, 1), insert(0, [1, 5], [3, 9]), insert(0, [2, 6], [5, 7, 9])]


class Cut(unittest.TestCase):
    def check(self, m, answer):
        self.assertEqual(last(*BEGUN, cut(0, m)), answer, m)

    def test_table_without_rows(self):
        for m in (0, 5, LATEST):
            self.assertEqual(last(make(0, 2, 1), cut(0, m)), [0])

    def test_no_row_holds(self):
        self.check(0, [0])
        self.check(2, [0])

    def test_begin_and_end(self):
        self.check(3, [1, 1, 5])
        self.check(4, [1, 1, 5])
        self.check(5, [2, 1, 5, 2, 6])
        self.check(6, [2, 1, 5, 2, 6])
        self.check(7, [1, 1, 5])
        self.check(8, [1, 1, 5])
        self.check(9, [1, 2, 6])

    def test_behind_the_last_bound(self):
        self.check(10, [1, 2, 6])
        self.check(LATEST, [1, 2, 6])
        self.assertEqual(last(make(0, 1, 1), insert(0, [4], [3, 9]), cut(0, 10)), [0])
        self.assertEqual(last(make(0, 1, 1), insert(0, [4], [3, 9]), cut(0, LATEST)), [0])

    def test_first_and_latest_moment(self):
        calls = [make(0, 1, 1), insert(0, [4], [0, 1]), insert(0, [5], [LATEST]), insert(0, [6], [LATEST - 1, LATEST])]
        self.assertEqual(last(*calls, cut(0, 0)), [1, 4])
        self.assertEqual(last(*calls, cut(0, 1)), [0])
        self.assertEqual(last(*calls, cut(0, LATEST - 1)), [1, 6])
        self.assertEqual(last(*calls, cut(0, LATEST)), [1, 5])

    def test_order_by_the_first_column_that_differs(self):
        given = [[2, -1, 0], [-3, 9, 9], [2, -5, 7], [10, 0, 0], [-LARGE, 0, 0], [-3, -9, 9], [2, 0, -4], [LARGE, 0, 0]]
        calls = [make(0, 3, 2)] + [insert(0, row, [3, 9]) for row in given]
        wanted = [-LARGE, 0, 0, -3, -9, 9, -3, 9, 9, 2, -5, 7, 2, -1, 0, 2, 0, -4, 10, 0, 0, LARGE, 0, 0]
        self.assertEqual(last(*calls, cut(0, 3)), [8] + wanted)

    def test_64_rows(self):
        calls = [make(0, 6, 1)] + [insert(0, [-key, 1, 2, 3, 4, 5], [key]) for key in range(64)]
        wanted = [number for key in reversed(range(64)) for number in (-key, 1, 2, 3, 4, 5)]
        self.assertEqual(last(*calls, cut(0, 63)), [64] + wanted)

    def test_moment_out_of_range(self):
        for wrong in (-HUGE, -1, LATEST + 1, HUGE):
            self.check(wrong, [-1])
            self.assertEqual(last(cut(0, wrong)), [-1])
