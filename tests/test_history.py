"""history: point 11."""

import unittest

from tests.calls import ALWAYS, LATEST, delete, history, insert, last, make, put, set_


class History(unittest.TestCase):
    def test_key_that_no_row_has(self):
        self.assertEqual(last(make(0, 2, 1), history(0, [7])), [0])
        self.assertEqual(last(make(0, 2, 1), insert(0, [7, 5], [3, 9]), history(0, [5])), [0])

    def test_key_whose_rows_are_gone(self):
        calls = [make(0, 2, 1), insert(0, [7, 5], [3, 9]), delete(0, [7], ALWAYS), history(0, [7])]
        self.assertEqual(last(*calls), [0])

    def test_one_piece(self):
        self.assertEqual(last(make(0, 2, 1), insert(0, [7, 5], [3, 9]), history(0, [7])), [1, 3, 9, 7, 5])

    def test_piece_that_never_ends(self):
        self.assertEqual(last(make(0, 2, 1), insert(0, [7, 5], [0]), history(0, [7])), [1, 0, -1, 7, 5])
        calls = [make(0, 2, 1), insert(0, [7, 5], [3, 9, LATEST]), history(0, [7])]
        self.assertEqual(last(*calls), [2, 3, 9, 7, 5, LATEST, -1, 7, 5])

    def test_row_with_several_pieces(self):
        calls = [make(0, 2, 1), insert(0, [7, 5], [3, 4, 6, 9, 11, 12]), history(0, [7])]
        self.assertEqual(last(*calls), [3, 3, 4, 7, 5, 6, 9, 7, 5, 11, 12, 7, 5])

    def test_rows_in_turn_by_their_begins(self):
        # The greater row comes first, and the pieces of the two rows take turns.
        calls = [make(0, 2, 1), insert(0, [7, 9], [3, 4, 6, 7, 20]), insert(0, [7, -1], [4, 5, 9, 10])]
        wanted = [5, 3, 4, 7, 9, 4, 5, 7, -1, 6, 7, 7, 9, 9, 10, 7, -1, 20, -1, 7, 9]
        self.assertEqual(last(*calls, history(0, [7])), wanted)

    def test_begins_are_ordered_as_numbers(self):
        calls = [make(0, 2, 1), insert(0, [7, 1], [100, 200]), insert(0, [7, 2], [9, 10]), insert(0, [7, 3], [20, 30])]
        self.assertEqual(last(*calls, history(0, [7])), [3, 9, 10, 7, 2, 20, 30, 7, 3, 100, 200, 7, 1])

    def test_a_row_gives_way_to_another_and_comes_back(self):
        calls = [make(0, 2, 1), insert(0, [7, 5], [3]), set_(0, 1, 6, [7], [5, 9])]
        self.assertEqual(last(*calls, history(0, [7])), [3, 3, 5, 7, 5, 5, 9, 7, 6, 9, -1, 7, 5])

    def test_touching_pieces_of_one_row_are_one_entry(self):
        calls = [make(0, 2, 1), insert(0, [7, 5], [3, 5]), insert(0, [7, 5], [5, 9]), put(0, [7, 5], [9, 10])]
        self.assertEqual(last(*calls, history(0, [7])), [1, 3, 10, 7, 5])

    def test_other_keys_are_not_told(self):
        calls = [make(0, 3, 2), insert(0, [7, 1, 5], [3, 9]), insert(0, [7, 2, 5], [1, 4])]
        calls += [insert(0, [1, 7, 5], [2, 3])]
        self.assertEqual(last(*calls, history(0, [7, 1])), [1, 3, 9, 7, 1, 5])
        self.assertEqual(last(*calls, history(0, [1, 7])), [1, 2, 3, 1, 7, 5])
        self.assertEqual(last(*calls, history(0, [7, 5])), [0])

    def test_key_of_all_columns(self):
        calls = [make(0, 2, 2), insert(0, [7, 1], [3, 9]), insert(0, [7, 2], [1, 4])]
        self.assertEqual(last(*calls, history(0, [7, 2])), [1, 1, 4, 7, 2])
