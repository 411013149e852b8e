"""differ: point 16."""

import unittest

from tests.calls import ALWAYS, LATEST, copy, delete, differ, insert, last, make, set_

BEGUN = [make(0, 2, 1), make(1, 2, 1)]


class Differ(unittest.TestCase):
    def check(self, calls, answer):
        self.assertEqual(last(*BEGUN, *calls, differ(0, 1)), answer)
        self.assertEqual(last(*BEGUN, *calls, differ(1, 0)), answer)

    def test_tables_without_rows(self):
        self.check([], [0])

    def test_one_table_without_rows(self):
        self.check([insert(0, [1, 5], [3, 9])], [2, 3, 9])

    def test_one_table_twice(self):
        calls = BEGUN + [insert(0, [1, 5], [3, 9]), insert(0, [2, 5], [4])]
        self.assertEqual(last(*calls, differ(0, 0)), [0])
        self.assertEqual(last(*calls, differ(1, 1)), [0])

    def test_same_rows(self):
        calls = [insert(0, [1, 5], [3, 9]), insert(0, [2, 5], [4]), insert(1, [2, 5], [4]), insert(1, [1, 5], [3, 9])]
        self.check(calls, [0])

    def test_same_row_at_other_moments(self):
        self.check([insert(0, [1, 5], [3, 9]), insert(1, [1, 5], [4, 12])], [4, 3, 4, 9, 12])

    def test_other_row_with_the_key(self):
        self.check([insert(0, [1, 5], [3, 9]), insert(1, [1, 6], [3, 9])], [2, 3, 9])
        self.check([insert(0, [1, 5], [3, 9]), insert(1, [1, 5], [3, 9]), set_(1, 1, 6, [1], [4, 5])], [2, 4, 5])

    def test_sets_that_never_end(self):
        self.check([insert(0, [1, 5], [3])], [1, 3])
        self.check([insert(0, [1, 5], [3]), insert(1, [1, 5], [7])], [2, 3, 7])
        self.check([insert(0, [1, 5], [3]), insert(1, [1, 5], [3, LATEST])], [1, LATEST])
        self.check([insert(0, [1, 5], [0]), insert(1, [2, 5], [0])], [1, 0])

    def test_some_row_is_enough(self):
        calls = [insert(0, [1, 5], ALWAYS), insert(1, [1, 5], ALWAYS), insert(0, [2, 5], [3, 6])]
        self.check(calls + [insert(1, [3, 5], [5, 9])], [2, 3, 9])

    def test_touching_pieces_are_one(self):
        self.check([insert(0, [1, 5], [3, 5]), insert(1, [2, 5], [5, 9])], [2, 3, 9])

    def test_a_row_that_one_table_lost(self):
        self.check([insert(0, [1, 5], [3, 9]), copy(1, 0, ALWAYS), delete(1, [1], [4, 6])], [2, 4, 6])

    def test_tables_of_other_widths(self):
        calls = [make(0, 3, 1), make(1, 3, 2), make(2, 2, 1)]
        for t, u in ((0, 1), (1, 0), (0, 2), (2, 0), (1, 2)):
            self.assertEqual(last(*calls, differ(t, u)), [-3])
