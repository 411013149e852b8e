import unittest

from tests.calls import ALWAYS, HUGE, ask, delete, drop, held, insert, last, make


class Make(unittest.TestCase):
    def test_each_table_and_each_width(self):
        for t in range(4):
            for w in range(1, 7):
                for k in range(1, w + 1):
                    row = list(range(w))
                    calls = [make(t, w, k), insert(t, row, [5]), delete(t, row[:k], ALWAYS)]
                    self.assertEqual(ask(calls), [[0], [0, 5], [0, 5]])

    def test_no_row_holds(self):
        rows = [[0, 0], [1, 0]]
        self.assertEqual(held([make(0, 2, 1)], 0, (2, 1), rows), {(0, 0): [], (1, 0): []})

    def test_no_table_is_made_at_the_beginning(self):
        self.assertEqual(ask([drop(t) for t in range(4)]), [[-2]] * 4)

    def test_out_of_range(self):
        for t in (-HUGE, -1, 4, HUGE):
            self.assertEqual(last(make(t, 2, 1)), [-1])
        for w in (-HUGE, -1, 0, 7, HUGE):
            self.assertEqual(last(make(0, w, 1)), [-1])
        for k in (-HUGE, -1, 0, 3, HUGE):
            self.assertEqual(last(make(0, 2, k)), [-1])

    def test_made_already(self):
        self.assertEqual(ask([make(0, 2, 1), make(0, 2, 1), make(1, 2, 1)]), [[0], [-2], [0]])

    def test_out_of_range_comes_before_made_already(self):
        self.assertEqual(last(make(0, 2, 1), make(0, 7, 1)), [-1])
        self.assertEqual(last(make(0, 2, 1), make(0, 2, 3)), [-1])

    def test_made_already_changes_nothing(self):
        calls = [make(0, 2, 1), insert(0, [1, 2], [3, 9]), make(0, 2, 1), make(0, 3, 2)]
        self.assertEqual(held(calls, 0, (2, 1), [[1, 2]]), {(1, 2): [3, 9]})


class Drop(unittest.TestCase):
    def test_not_made_any_more(self):
        calls = [make(0, 2, 1), drop(0), insert(0, [1, 2], [3]), drop(0)]
        self.assertEqual(ask(calls), [[0], [0], [-2], [-2]])

    def test_rows_are_gone_when_made_again(self):
        calls = [make(0, 2, 1), insert(0, [1, 2], [3, 9]), drop(0), make(0, 2, 1)]
        self.assertEqual(ask(calls)[-2:], [[0], [0]])
        self.assertEqual(held(calls, 0, (2, 1), [[1, 2]]), {(1, 2): []})

    def test_made_again_with_another_width(self):
        calls = [make(0, 2, 1), drop(0), make(0, 3, 2), insert(0, [1, 2, 3], [4])]
        self.assertEqual(last(*calls), [0, 4])

    def test_other_tables_stay(self):
        calls = [make(0, 2, 1), make(1, 2, 1), insert(1, [1, 2], [3, 9]), drop(0)]
        self.assertEqual(held(calls, 1, (2, 1), [[1, 2]]), {(1, 2): [3, 9]})

    def test_out_of_range(self):
        for t in (-HUGE, -1, 4, HUGE):
            self.assertEqual(last(drop(t)), [-1])
