"""count and total: point 14. most: point 15."""

import unittest

from tests.calls import ALWAYS, LARGE, LATEST, count, delete, insert, last, make, most, put, set_, total


class Count(unittest.TestCase):
    def test_table_without_rows(self):
        self.assertEqual(last(make(0, 2, 1), count(0)), [1, 0, 0])

    def test_rows_that_are_gone(self):
        calls = [make(0, 2, 1), insert(0, [1, 5], [3, 9]), delete(0, [1], ALWAYS)]
        self.assertEqual(last(*calls, count(0)), [1, 0, 0])

    def test_entries(self):
        calls = [make(0, 2, 1), insert(0, [1, 5], [3, 9, 12]), insert(0, [2, 5], [4, 9]), insert(0, [3, 5], [12])]
        self.assertEqual(last(*calls, count(0)), [5, 0, 0, 3, 1, 4, 2, 9, 0, 12, 2])

    def test_rows_at_moment_0(self):
        calls = [make(0, 1, 1), insert(0, [1], [0, 9]), insert(0, [2], [0])]
        self.assertEqual(last(*calls, count(0)), [2, 0, 2, 9, 1])
        self.assertEqual(last(make(0, 1, 1), insert(0, [1], [0]), count(0)), [1, 0, 1])

    def test_one_row_ends_and_another_begins(self):
        calls = [make(0, 1, 1), insert(0, [1], [3, 5]), insert(0, [2], [5, 9])]
        self.assertEqual(last(*calls, count(0)), [3, 0, 0, 3, 1, 9, 0])

    def test_one_row_ends_and_two_begin(self):
        calls = [make(0, 1, 1), insert(0, [1], [3, 5]), insert(0, [2], [5, 9]), insert(0, [3], [5, 9])]
        self.assertEqual(last(*calls, count(0)), [4, 0, 0, 3, 1, 5, 2, 9, 0])

    def test_a_row_with_the_key_gives_way_to_another(self):
        calls = [make(0, 2, 1), insert(0, [1, 5], [0]), set_(0, 1, 6, [1], [4])]
        self.assertEqual(last(*calls, count(0)), [1, 0, 1])

    def test_latest_moment(self):
        self.assertEqual(last(make(0, 1, 1), insert(0, [1], [LATEST]), count(0)), [2, 0, 0, LATEST, 1])


class Total(unittest.TestCase):
    def test_table_without_rows(self):
        self.assertEqual(last(make(0, 2, 1), total(0, 0)), [1, 0, 0])
        self.assertEqual(last(make(0, 2, 1), total(0, 1)), [1, 0, 0])

    def test_each_column(self):
        calls = [make(0, 3, 2), insert(0, [1, 20, 300], [3, 9]), insert(0, [4, -50, 600], [5])]
        self.assertEqual(last(*calls, total(0, 0)), [4, 0, 0, 3, 1, 5, 5, 9, 4])
        self.assertEqual(last(*calls, total(0, 1)), [4, 0, 0, 3, 20, 5, -30, 9, -50])
        self.assertEqual(last(*calls, total(0, 2)), [4, 0, 0, 3, 300, 5, 900, 9, 600])

    def test_rows_at_moment_0(self):
        calls = [make(0, 2, 1), insert(0, [1, 5], [0, 9]), insert(0, [2, 6], [0])]
        self.assertEqual(last(*calls, total(0, 1)), [2, 0, 11, 9, 6])

    def test_rows_at_moment_0_with_the_sum_0(self):
        calls = [make(0, 2, 1), insert(0, [1, 5], [0, 9]), insert(0, [2, -5], [0, 9])]
        self.assertEqual(last(*calls, total(0, 1)), [1, 0, 0])

    def test_the_number_0_makes_no_entry(self):
        calls = [make(0, 2, 1), insert(0, [1, 0], [3, 9])]
        self.assertEqual(last(*calls, total(0, 1)), [1, 0, 0])
        self.assertEqual(last(*calls, total(0, 0)), [3, 0, 0, 3, 1, 9, 0])

    def test_same_sum_of_other_rows(self):
        calls = [make(0, 2, 1), insert(0, [1, 5], [3, 6]), insert(0, [2, 2], [6, 9]), insert(0, [3, 3], [6, 9])]
        self.assertEqual(last(*calls, total(0, 1)), [3, 0, 0, 3, 5, 9, 0])

    def test_a_row_with_the_key_gives_way_to_another(self):
        calls = [make(0, 3, 1), insert(0, [1, 5, 7], [3, 9]), set_(0, 1, 6, [1], [4, 5])]
        self.assertEqual(last(*calls, total(0, 1)), [5, 0, 0, 3, 5, 4, 6, 5, 5, 9, 0])
        self.assertEqual(last(*calls, total(0, 2)), [3, 0, 0, 3, 7, 9, 0])

    def test_sums_beyond_a_number(self):
        calls = [make(0, 2, 1)] + [insert(0, [key, LARGE], [key]) for key in range(64)]
        wanted = [number for key in range(64) for number in (key, LARGE * (key + 1))]
        self.assertEqual(last(*calls, total(0, 1)), [64] + wanted)
        calls = [make(0, 2, 1)] + [insert(0, [key, -LARGE], [key]) for key in range(64)]
        wanted = [number for key in range(64) for number in (key, -LARGE * (key + 1))]
        self.assertEqual(last(*calls, total(0, 1)), [64] + wanted)

    def test_sums_just_beyond_a_number(self):
        calls = [make(0, 2, 1), insert(0, [1, LARGE], [3]), insert(0, [2, 1], [4]), insert(0, [3, -2], [5, 6])]
        self.assertEqual(last(*calls, total(0, 1)), [5, 0, 0, 3, LARGE, 4, LARGE + 1, 5, LARGE - 1, 6, LARGE + 1])
        calls = [make(0, 2, 1), insert(0, [1, -LARGE], [3]), insert(0, [2, -1], [4])]
        self.assertEqual(last(*calls, total(0, 1)), [3, 0, 0, 3, -LARGE, 4, -LARGE - 1])


class Most(unittest.TestCase):
    def test_table_without_rows(self):
        self.assertEqual(last(make(0, 2, 1), most(0)), [0, 0])

    def test_rows_that_are_gone(self):
        calls = [make(0, 2, 1), insert(0, [1, 5], [3, 9]), delete(0, [1], ALWAYS)]
        self.assertEqual(last(*calls, most(0)), [0, 0])

    def test_greatest_number(self):
        calls = [make(0, 1, 1), insert(0, [1], [3, 9]), insert(0, [2], [4, 6]), insert(0, [3], [5, 7])]
        self.assertEqual(last(*calls, most(0)), [3, 5])

    def test_earliest_of_several_moments(self):
        calls = [make(0, 1, 1), insert(0, [1], [3, 9]), insert(0, [2], [4, 5, 7, 8])]
        self.assertEqual(last(*calls, most(0)), [2, 4])
        self.assertEqual(last(*calls, put(0, [3], [7]), most(0)), [3, 7])

    def test_earliest_when_other_rows_hold_at_once_behind(self):
        calls = [make(0, 1, 1), insert(0, [1], [3, 9]), insert(0, [2], [9])]
        self.assertEqual(last(*calls, most(0)), [1, 3])

    def test_moment_0(self):
        self.assertEqual(last(make(0, 1, 1), insert(0, [1], [0]), most(0)), [1, 0])
        self.assertEqual(last(make(0, 1, 1), insert(0, [1], [0, 1, 5]), insert(0, [2], [7]), most(0)), [2, 7])

    def test_never_ending_and_latest(self):
        calls = [make(0, 1, 1), insert(0, [1], [3]), insert(0, [2], [LATEST])]
        self.assertEqual(last(*calls, most(0)), [2, LATEST])

    def test_one_row_ends_where_another_begins(self):
        calls = [make(0, 1, 1), insert(0, [1], [3, 5]), insert(0, [2], [5, 9])]
        self.assertEqual(last(*calls, most(0)), [1, 3])

    def test_64_rows(self):
        calls = [make(0, 1, 1)] + [insert(0, [row], [row, 200]) for row in range(64)]
        self.assertEqual(last(*calls, most(0)), [64, 63])
