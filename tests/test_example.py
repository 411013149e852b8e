import unittest

from tests.calls import ask, held, insert, make, set_

ROWS = [[7, 5], [7, 6], [7, 1]]
CALLS = [
    make(0, 2, 1),
    insert(0, [7, 5], [3, 9]),
    set_(0, 1, 6, [7], [5]),
    insert(0, [7, 1], [8, 12]),
    insert(0, [7, 5], [9]),
]


class Example(unittest.TestCase):
    """The document's own example, as far as its calls are written."""

    def test_answers(self):
        self.assertEqual(ask(CALLS), [[0], [0, 3, 9], [0, 5, 9], [1, 8], [0, 9]])

    def test_rows_after_the_set(self):
        self.assertEqual(held(CALLS[:3], 0, (2, 1), ROWS), {(7, 5): [3, 5], (7, 6): [5, 9], (7, 1): []})

    def test_rows_at_the_end(self):
        self.assertEqual(held(CALLS, 0, (2, 1), ROWS), {(7, 5): [3, 5, 9], (7, 6): [5, 9], (7, 1): []})
