"""change and remove: points 6 and 7."""

import unittest

from tests.calls import ALWAYS, HUGE, LARGE, change, held, insert, last, make, remove

SHAPE = (2, 1)
NUMBERS = (3, 4, 5, 6, 7)
MATCHING = {0: (5,), 1: (3, 4, 6, 7), 2: (3, 4), 3: (3, 4, 5), 4: (6, 7), 5: (5, 6, 7)}


def begun():
    """Rows with the keys 3 to 7, each with ten times its key, for ever from 2 on."""
    return [make(0, 2, 1)] + [insert(0, [number, 10 * number], [2]) for number in NUMBERS]


class Ops(unittest.TestCase):
    def check(self, call, op, after):
        """After the call the rows that match are what after says, and the others are as they were."""
        rows = [[number, 10 * number] for number in NUMBERS]
        changed = [row for row in [after(number) for number in NUMBERS] if row is not None]
        found = held(begun() + [call], 0, SHAPE, rows + changed)
        for number in NUMBERS:
            is_matching = number in MATCHING[op]
            self.assertEqual(found[(number, 10 * number)], [2, 4, 8] if is_matching else [2], (op, number))
            if after(number) is not None:
                self.assertEqual(found[tuple(after(number))], [4, 8] if is_matching else [], (op, number))

    def test_change_by_each_op(self):
        for op in MATCHING:
            call = change(0, 0, op, 5, 1, 99, [4, 8])
            self.assertEqual(last(*begun(), call), [0, 4, 8])
            self.check(call, op, lambda number: [number, 99])

    def test_change_by_each_op_on_a_column_that_is_no_key(self):
        for op in MATCHING:
            self.check(change(0, 1, op, 50, 1, 99, [4, 8]), op, lambda number: [number, 99])

    def test_remove_by_each_op(self):
        for op in MATCHING:
            call = remove(0, 0, op, 5, [4, 8])
            self.assertEqual(last(*begun(), call), [0, 4, 8])
            self.check(call, op, lambda number: None)

    def test_remove_by_each_op_on_a_column_that_is_no_key(self):
        for op in MATCHING:
            self.check(remove(0, 1, op, 50, [4, 8]), op, lambda number: None)


class Change(unittest.TestCase):
    def test_no_row_matches(self):
        self.assertEqual(last(*begun(), change(0, 0, 0, 9, 1, 99, ALWAYS)), [0])

    def test_number_that_is_there_already(self):
        self.assertEqual(last(*begun(), change(0, 0, 0, 5, 1, 50, ALWAYS)), [0])

    def test_only_moments_at_which_a_row_is_another_afterwards(self):
        calls = [make(0, 2, 1), insert(0, [1, 5], [2, 9]), insert(0, [2, 6], [7, 12])]
        self.assertEqual(last(*calls, change(0, 1, 5, 5, 1, 6, ALWAYS)), [0, 2, 9])

    def test_greatest_and_smallest_numbers(self):
        calls = [make(0, 2, 1), insert(0, [1, LARGE], [2, 9]), change(0, 1, 0, LARGE, 1, -LARGE, [3])]
        rows = [[1, LARGE], [1, -LARGE]]
        self.assertEqual(held(calls, 0, SHAPE, rows), {(1, LARGE): [2, 3], (1, -LARGE): [3, 9]})

    def test_key_column(self):
        calls = [make(0, 2, 1), insert(0, [1, 5], [2, 9]), insert(0, [2, 6], [4, 12]), change(0, 0, 0, 1, 0, 7, [3, 6])]
        self.assertEqual(last(*calls), [0, 3, 6])
        rows = [[1, 5], [7, 5], [2, 6]]
        self.assertEqual(held(calls, 0, SHAPE, rows), {(1, 5): [2, 3, 6, 9], (7, 5): [3, 6], (2, 6): [4, 12]})

    def test_key_column_clashes_with_a_row_that_does_not_match(self):
        calls = [make(0, 2, 1), insert(0, [1, 5], [2, 9]), insert(0, [2, 6], [4, 12]), change(0, 0, 0, 1, 0, 2, ALWAYS)]
        self.assertEqual(last(*calls), [1, 4])
        rows = [[1, 5], [2, 5], [2, 6]]
        self.assertEqual(held(calls, 0, SHAPE, rows), {(1, 5): [2, 9], (2, 5): [], (2, 6): [4, 12]})

    def test_clash_is_told_by_the_earliest_moment_of_the_set(self):
        calls = [make(0, 2, 1), insert(0, [1, 5], [2, 9]), insert(0, [2, 6], [4, 12])]
        self.assertEqual(last(*calls, change(0, 0, 0, 1, 0, 2, [0, 3, 6, 7])), [1, 6])
        self.assertEqual(last(*calls, change(0, 0, 0, 1, 0, 2, [0, 4, 9])), [0, 2, 4])

    def test_earliest_clash_of_several_keys(self):
        calls = [make(0, 3, 2)]
        calls += [insert(0, [1, 1, 0], [20]), insert(0, [1, 2, 0], [20])]
        calls += [insert(0, [2, 1, 0], [10]), insert(0, [2, 2, 0], [10])]
        self.assertEqual(last(*calls, change(0, 2, 0, 0, 1, 7, ALWAYS)), [1, 10])

    def test_two_rows_that_become_one_row_clash(self):
        calls = [make(0, 2, 1), insert(0, [1, 5], [2, 9]), insert(0, [2, 5], [6, 12]), change(0, 1, 0, 5, 0, 3, ALWAYS)]
        self.assertEqual(last(*calls), [1, 6])
        rows = [[1, 5], [2, 5], [3, 5]]
        self.assertEqual(held(calls, 0, SHAPE, rows), {(1, 5): [2, 9], (2, 5): [6, 12], (3, 5): []})

    def test_a_row_that_becomes_a_row_that_holds_clashes(self):
        calls = [make(0, 2, 1), insert(0, [1, 5], [2, 9]), insert(0, [2, 5], [6, 12]), change(0, 0, 0, 1, 0, 2, ALWAYS)]
        self.assertEqual(last(*calls), [1, 6])

    def test_rows_that_become_one_row_at_different_moments(self):
        calls = [make(0, 2, 1), insert(0, [1, 5], [2, 6]), insert(0, [2, 5], [6, 12]), change(0, 1, 0, 5, 0, 3, ALWAYS)]
        self.assertEqual(last(*calls), [0, 2, 12])
        rows = [[1, 5], [2, 5], [3, 5]]
        self.assertEqual(held(calls, 0, SHAPE, rows), {(1, 5): [], (2, 5): [], (3, 5): [2, 12]})

    def test_all_rows_at_once(self):
        calls = [make(0, 3, 2)] + [insert(0, [1, number, 0], [2, 9]) for number in (1, 2, 3)]
        calls += [change(0, 1, 5, 2, 0, 5, [4])]
        self.assertEqual(last(*calls), [0, 4, 9])
        found = held(calls, 0, (3, 2), [[1, 1, 0], [1, 2, 0], [1, 3, 0], [5, 1, 0], [5, 2, 0], [5, 3, 0]])
        self.assertEqual(found, {(1, 1, 0): [2, 9], (1, 2, 0): [2, 4], (1, 3, 0): [2, 4],
                                 (5, 1, 0): [], (5, 2, 0): [4, 9], (5, 3, 0): [4, 9]})

    def test_a_row_that_matches_and_stays_the_same_clashes_with_one_that_becomes_it(self):
        calls = [make(0, 2, 1), insert(0, [1, 5], [2, 9]), insert(0, [2, 5], [6, 12]), change(0, 1, 0, 5, 0, 2, ALWAYS)]
        self.assertEqual(last(*calls), [1, 6])

    def test_a_key_that_was_left_is_free_from_then_on(self):
        calls = [make(0, 2, 1), insert(0, [1, 5], [2]), insert(0, [2, 6], [2]), change(0, 0, 0, 1, 0, 3, [4])]
        self.assertEqual(last(*calls, change(0, 0, 0, 2, 0, 1, [4])), [0, 4])
        self.assertEqual(last(*calls, change(0, 0, 0, 2, 0, 1, [3])), [1, 3])

    def test_wrong_op(self):
        for op in (-HUGE, -1, 6, HUGE):
            self.assertEqual(last(*begun(), change(0, 0, op, 5, 1, 99, [4])), [-1])
            self.assertEqual(last(*begun(), remove(0, 0, op, 5, [4])), [-1])


class Remove(unittest.TestCase):
    def test_only_moments_at_which_a_row_matched(self):
        calls = [make(0, 2, 1), insert(0, [1, 5], [2, 4]), insert(0, [2, 5], [3, 6]), insert(0, [3, 6], [0])]
        self.assertEqual(last(*calls, remove(0, 1, 0, 5, ALWAYS)), [0, 2, 6])

    def test_no_row_matches(self):
        self.assertEqual(last(*begun(), remove(0, 1, 0, 9, ALWAYS)), [0])
