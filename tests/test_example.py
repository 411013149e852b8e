import unittest

from tests.calls import ask, cut, held, history, insert, make, rows, set_

CALLS = [
    make(0, 2, 1),
    insert(0, [7, 5], [3, 9]),
    set_(0, 1, 6, [7], [5]),
    rows(0),
    cut(0, 4),
    history(0, [7]),
    insert(0, [7, 1], [8, 12]),
    insert(0, [7, 5], [9]),
    rows(0),
]
ANSWERS = [
    [0],
    [0, 3, 9],
    [0, 5, 9],
    [2, 7, 5, 2, 3, 5, 7, 6, 2, 5, 9],
    [1, 7, 5],
    [2, 3, 5, 7, 5, 5, 9, 7, 6],
    [1, 8],
    [0, 9],
    [2, 7, 5, 3, 3, 5, 9, 7, 6, 2, 5, 9],
]


class Example(unittest.TestCase):
    """The document's own example."""

    def test_answers(self):
        self.assertEqual(ask(CALLS), ANSWERS)

    def test_rows_without_asking_for_them(self):
        asked = [[7, 5], [7, 6], [7, 1]]
        self.assertEqual(held(CALLS[:3], 0, (2, 1), asked), {(7, 5): [3, 5], (7, 6): [5, 9], (7, 1): []})
        self.assertEqual(held(CALLS, 0, (2, 1), asked), {(7, 5): [3, 5, 9], (7, 6): [5, 9], (7, 1): []})
