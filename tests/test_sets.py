import unittest

from tests.calls import ALWAYS, LATEST, delete, held, insert, last, make, put

SHAPE = (2, 1)


class Sets(unittest.TestCase):
    """What a call does with each form of a set."""

    def check(self, S):
        calls = [make(0, 2, 1), insert(0, [1, 2], S)]
        self.assertEqual(last(*calls), [0] + S)
        self.assertEqual(held(calls, 0, SHAPE, [[1, 2]]), {(1, 2): S})

    def test_no_bounds(self):
        self.check([])

    def test_an_odd_number_of_bounds_never_ends(self):
        self.check([3, 7, 9])

    def test_from_0_on(self):
        self.check([0])

    def test_begins_at_0(self):
        self.check([0, 1])

    def test_touches_the_latest_bound(self):
        self.check([LATEST])
        self.check([0, LATEST])
        self.check([LATEST - 1, LATEST])

    def test_several_pieces(self):
        self.check([0, 1, 2, 3, 10, 20, 21])

    def test_64_bounds(self):
        self.check(list(range(0, 128, 2)))

    def test_the_moment_of_an_end_is_out(self):
        begun = [make(0, 2, 1), insert(0, [1, 2], [3, 7, 9])]
        self.assertEqual(last(*begun, delete(0, [1], [2, 3])), [0])
        self.assertEqual(last(*begun, delete(0, [1], [6, 7])), [0, 6, 7])
        self.assertEqual(last(*begun, delete(0, [1], [7, 9])), [0])
        self.assertEqual(last(*begun, delete(0, [1], [LATEST])), [0, LATEST])


class Answer(unittest.TestCase):
    """The bounds behind 0: the moments at which the rows aren't the same as before, in the fewest bounds."""

    def test_smaller_than_the_set(self):
        calls = [make(0, 2, 1), put(0, [1, 2], [3, 9]), put(0, [1, 2], ALWAYS)]
        self.assertEqual(last(*calls), [0, 0, 3, 9])

    def test_none(self):
        calls = [make(0, 2, 1), put(0, [1, 2], [3, 9]), put(0, [1, 2], [4, 8])]
        self.assertEqual(last(*calls), [0])

    def test_touching_pieces_of_several_rows_are_one_piece(self):
        calls = [make(0, 2, 1), put(0, [1, 2], [3, 5]), put(0, [1, 3], [5, 9]), delete(0, [1], ALWAYS)]
        self.assertEqual(last(*calls), [0, 3, 9])

    def test_one_row_for_another_is_a_change_though_the_number_of_rows_is_the_same(self):
        calls = [make(0, 2, 1), put(0, [1, 2], [3, 9]), put(0, [1, 3], [4, 6])]
        self.assertEqual(last(*calls), [0, 4, 6])
