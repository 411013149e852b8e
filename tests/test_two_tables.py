"""copy, merge and take: point 8."""

import unittest

from tests.calls import ALWAYS, copy, held, insert, last, make, merge, take

SHAPE = (2, 1)
ROWS = [(1, 10), (1, 11), (2, 20), (3, 30)]
BEGUN = [
    make(0, 2, 1), insert(0, [1, 10], [3, 9]), insert(0, [2, 20], [0, 5, 8]),
    make(1, 2, 1), insert(1, [1, 10], [1, 4]), insert(1, [1, 11], [4, 7]), insert(1, [2, 20], [2, 9]),
    insert(1, [3, 30], [6]),
]
OTHER = {(1, 10): [1, 4], (1, 11): [4, 7], (2, 20): [2, 9], (3, 30): [6]}


class TwoTables(unittest.TestCase):
    def check(self, call, answer, rows):
        self.assertEqual(last(*BEGUN, call), answer)
        self.assertEqual(held(BEGUN + [call], 0, SHAPE, ROWS), rows)
        self.assertEqual(held(BEGUN + [call], 1, SHAPE, ROWS), OTHER)


class Copy(TwoTables):
    def test_for_ever(self):
        self.check(copy(0, 1, ALWAYS), [0, 0, 3, 4], OTHER)

    def test_for_some_moments(self):
        rows = {(1, 10): [1, 4, 6, 9], (1, 11): [4, 6], (2, 20): [0, 1, 2, 6, 8], (3, 30): []}
        self.check(copy(0, 1, [1, 6]), [0, 1, 3, 4, 6], rows)

    def test_no_moment(self):
        self.check(copy(0, 1, []), [0], {(1, 10): [3, 9], (1, 11): [], (2, 20): [0, 5, 8], (3, 30): []})

    def test_same_rows_at_the_moments(self):
        self.check(copy(0, 1, [3, 4]), [0], {(1, 10): [3, 9], (1, 11): [], (2, 20): [0, 5, 8], (3, 30): []})

    def test_the_other_table_changes_alone_afterwards(self):
        calls = BEGUN + [copy(0, 1, ALWAYS), insert(1, [3, 31], [0, 3])]
        self.assertEqual(held(calls, 0, SHAPE, [[3, 30], [3, 31]]), {(3, 30): [6], (3, 31): []})


class Merge(TwoTables):
    def test_for_ever(self):
        rows = {(1, 10): [1, 4, 7, 9], (1, 11): [4, 7], (2, 20): [0], (3, 30): [6]}
        self.check(merge(0, 1, ALWAYS), [0, 1, 3, 4], rows)

    def test_for_some_moments(self):
        rows = {(1, 10): [3, 6, 7, 9], (1, 11): [6, 7], (2, 20): [0, 5, 6], (3, 30): [6, 8]}
        self.check(merge(0, 1, [6, 8]), [0, 6, 8], rows)

    def test_nothing_new(self):
        self.check(merge(0, 1, [3, 4]), [0], {(1, 10): [3, 9], (1, 11): [], (2, 20): [0, 5, 8], (3, 30): []})

    def test_same_key_at_other_moments_stays(self):
        calls = [make(0, 2, 1), insert(0, [1, 10], [3, 9]), make(1, 2, 1), insert(1, [1, 11], [9, 12])]
        self.assertEqual(last(*calls, merge(0, 1, ALWAYS)), [0, 9, 12])

    def test_key_of_several_columns(self):
        calls = [make(0, 3, 2), insert(0, [1, 1, 5], [3, 9]), make(1, 3, 2), insert(1, [1, 2, 6], [4, 6])]
        calls += [insert(1, [1, 1, 7], [8, 10]), merge(0, 1, ALWAYS)]
        rows = [[1, 1, 5], [1, 2, 6], [1, 1, 7]]
        found = held(calls, 0, (3, 2), rows)
        self.assertEqual(found, {(1, 1, 5): [3, 8], (1, 2, 6): [4, 6], (1, 1, 7): [8, 10]})


class Take(TwoTables):
    def test_for_ever(self):
        rows = {(1, 10): [4, 9], (1, 11): [], (2, 20): [0, 2, 9], (3, 30): []}
        self.check(take(0, 1, ALWAYS), [0, 2, 5, 8, 9], rows)

    def test_for_some_moments(self):
        rows = {(1, 10): [4, 9], (1, 11): [], (2, 20): [0, 3, 4, 5, 8], (3, 30): []}
        self.check(take(0, 1, [3, 4]), [0, 3, 4], rows)

    def test_another_row_with_the_same_key_is_not_taken(self):
        self.check(take(0, 1, [5, 7]), [0], {(1, 10): [3, 9], (1, 11): [], (2, 20): [0, 5, 8], (3, 30): []})


class OneTableTwice(unittest.TestCase):
    BEFORE = {(1, 10): [3, 9], (2, 20): [0, 5, 8]}

    def check(self, call, answer, rows):
        self.assertEqual(last(*BEGUN, call), answer)
        self.assertEqual(held(BEGUN + [call], 0, SHAPE, list(rows)), rows)

    def test_copy(self):
        self.check(copy(0, 0, [2, 6]), [0], self.BEFORE)

    def test_merge(self):
        self.check(merge(0, 0, [2, 6]), [0], self.BEFORE)

    def test_take(self):
        self.check(take(0, 0, [2, 6]), [0, 2, 6], {(1, 10): [6, 9], (2, 20): [0, 2, 8]})

    def test_take_where_no_row_holds(self):
        calls = [make(0, 2, 1), insert(0, [1, 10], [3, 9]), take(0, 0, ALWAYS)]
        self.assertEqual(last(*calls), [0, 3, 9])
