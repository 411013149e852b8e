"""when and alive: point 12."""

import unittest

from tests.calls import ALWAYS, LARGE, LATEST, alive, delete, insert, last, make, set_, when

BEGUN = [make(0, 2, 1), insert(0, [7, 5], [3, 9, 12]), insert(0, [7, 6], [9, 10]), insert(0, [8, 5], [0, 2])]


class When(unittest.TestCase):
    def test_row_that_never_holds(self):
        self.assertEqual(last(make(0, 2, 1), when(0, [7, 5])), [0])
        for row in ([7, 7], [5, 7], [8, 6], [-7, 5], [LARGE, -LARGE]):
            self.assertEqual(last(*BEGUN, when(0, row)), [0])

    def test_row_that_is_gone(self):
        self.assertEqual(last(*BEGUN, delete(0, [7], ALWAYS), when(0, [7, 5])), [0])

    def test_bounds(self):
        self.assertEqual(last(*BEGUN, when(0, [7, 5])), [3, 3, 9, 12])
        self.assertEqual(last(*BEGUN, when(0, [7, 6])), [2, 9, 10])
        self.assertEqual(last(*BEGUN, when(0, [8, 5])), [2, 0, 2])

    def test_for_ever(self):
        self.assertEqual(last(make(0, 1, 1), insert(0, [7], [0]), when(0, [7])), [1, 0])
        self.assertEqual(last(make(0, 1, 1), insert(0, [7], [LATEST]), when(0, [7])), [1, LATEST])

    def test_touching_pieces_are_one(self):
        calls = [make(0, 1, 1), insert(0, [7], [3, 5]), insert(0, [7], [5, 9])]
        self.assertEqual(last(*calls, when(0, [7])), [2, 3, 9])

    def test_greatest_and_smallest_numbers(self):
        calls = [make(0, 2, 1), insert(0, [LARGE, -LARGE], [3, 9])]
        self.assertEqual(last(*calls, when(0, [LARGE, -LARGE])), [2, 3, 9])

    def test_64_bounds(self):
        S = list(range(5, 69))
        self.assertEqual(last(make(0, 1, 1), insert(0, [7], S), when(0, [7])), [64] + S)


class Alive(unittest.TestCase):
    def test_key_that_no_row_has(self):
        self.assertEqual(last(make(0, 2, 1), alive(0, [7])), [0])
        for key in ([5], [6], [-7]):
            self.assertEqual(last(*BEGUN, alive(0, key)), [0])

    def test_key_whose_rows_are_gone(self):
        self.assertEqual(last(*BEGUN, delete(0, [7], ALWAYS), alive(0, [7])), [0])

    def test_rows_that_touch_are_one_piece(self):
        self.assertEqual(last(*BEGUN, alive(0, [7])), [3, 3, 10, 12])
        self.assertEqual(last(*BEGUN, insert(0, [7, -1], [10, 12]), alive(0, [7])), [1, 3])

    def test_a_row_that_gives_way_to_another(self):
        calls = [make(0, 2, 1), insert(0, [7, 5], [3, 9]), set_(0, 1, 6, [7], [4, 5, 7])]
        self.assertEqual(last(*calls, alive(0, [7])), [2, 3, 9])

    def test_one_row(self):
        self.assertEqual(last(*BEGUN, alive(0, [8])), [2, 0, 2])

    def test_key_of_several_columns(self):
        calls = [make(0, 3, 2), insert(0, [7, 1, 5], [3, 9]), insert(0, [7, 2, 5], [9, 11]), insert(0, [7, 1, 6], [10])]
        self.assertEqual(last(*calls, alive(0, [7, 1])), [3, 3, 9, 10])
        self.assertEqual(last(*calls, alive(0, [7, 2])), [2, 9, 11])
        self.assertEqual(last(*calls, alive(0, [1, 7])), [0])

    def test_many_bounds(self):
        # A key's set may have more bounds than a row's.
        first = list(range(0, 128, 2))
        second = list(range(200, 328, 2))
        calls = [make(0, 2, 1), insert(0, [7, 1], first), insert(0, [7, 2], second)]
        self.assertEqual(last(*calls, alive(0, [7])), [128] + first + second)
