"""insert, put, delete, set and add: points 2 to 5."""

import unittest

from tests.calls import ALWAYS, LARGE, add, delete, held, insert, last, make, put, set_

SHAPE = (2, 1)
BEGUN = [make(0, 2, 1), insert(0, [1, 10], [3, 9]), insert(0, [2, 20], [0, 5, 8])]


class OneKey(unittest.TestCase):
    def check(self, call, answer, rows):
        """The answer of the call behind BEGUN, and the rows afterwards."""
        self.assertEqual(last(*BEGUN, call), answer)
        self.assertEqual(held(BEGUN + [call], 0, SHAPE, rows), rows_of(rows))


def rows_of(rows):
    return {tuple(row): rows[row] for row in rows}


class Insert(OneKey):
    def test_beside_rows_with_other_keys(self):
        self.check(insert(0, [3, 10], [4, 6]), [0, 4, 6], {(1, 10): [3, 9], (2, 20): [0, 5, 8], (3, 10): [4, 6]})

    def test_same_row_at_other_moments(self):
        self.check(insert(0, [1, 10], [1, 3, 9]), [0, 1, 3, 9], {(1, 10): [1], (2, 20): [0, 5, 8]})

    def test_another_row_with_the_key_at_other_moments(self):
        self.check(insert(0, [1, 11], [9, 12]), [0, 9, 12], {(1, 10): [3, 9], (1, 11): [9, 12]})

    def test_clash_with_another_row_changes_nothing_at_any_moment(self):
        self.check(insert(0, [1, 11], [0, 2, 8]), [1, 8], {(1, 10): [3, 9], (1, 11): [], (2, 20): [0, 5, 8]})

    def test_clash_with_the_very_same_row(self):
        self.check(insert(0, [1, 10], [0, 2, 4, 5]), [1, 4], {(1, 10): [3, 9]})

    def test_clash_at_the_earliest_moment(self):
        self.check(insert(0, [2, 21], ALWAYS), [1, 0], {(2, 20): [0, 5, 8], (2, 21): []})
        self.check(insert(0, [2, 21], [5, 20]), [1, 8], {(2, 20): [0, 5, 8], (2, 21): []})

    def test_clash_at_the_earliest_of_several_rows(self):
        begun = [make(0, 2, 1), insert(0, [1, 5], [20, 30]), insert(0, [1, 6], [10, 12])]
        self.assertEqual(last(*begun, insert(0, [1, 7], [0, 10, 11])), [1, 11])

    def test_key_of_several_columns(self):
        begun = [make(0, 3, 2), insert(0, [1, 1, 5], [3, 9])]
        self.assertEqual(last(*begun, insert(0, [1, 2, 5], [3, 9])), [0, 3, 9])
        self.assertEqual(last(*begun, insert(0, [1, 1, 6], [3, 9])), [1, 3])

    def test_key_of_all_columns(self):
        begun = [make(0, 2, 2), insert(0, [1, 1], [3, 9])]
        self.assertEqual(last(*begun, insert(0, [1, 2], [3, 9])), [0, 3, 9])
        self.assertEqual(last(*begun, insert(0, [1, 1], [8])), [1, 8])

    def test_greatest_and_smallest_numbers(self):
        self.check(insert(0, [LARGE, -LARGE], [4]), [0, 4], {(LARGE, -LARGE): [4], (1, 10): [3, 9]})


class Put(OneKey):
    def test_in_the_place_of_the_row_with_its_key(self):
        self.check(put(0, [1, 11], [5, 12]), [0, 5, 12], {(1, 10): [3, 5], (1, 11): [5, 12], (2, 20): [0, 5, 8]})

    def test_in_the_place_of_several_rows(self):
        begun = BEGUN + [insert(0, [1, 11], [9, 12]), put(0, [1, 12], [8, 10])]
        rows = [[1, 10], [1, 11], [1, 12]]
        self.assertEqual(held(begun, 0, SHAPE, rows), {(1, 10): [3, 8], (1, 11): [10, 12], (1, 12): [8, 10]})

    def test_same_row_changes_only_where_it_did_not_hold(self):
        self.check(put(0, [1, 10], [0, 4, 8, 11]), [0, 0, 3, 9, 11], {(1, 10): [0, 11], (2, 20): [0, 5, 8]})

    def test_no_moment(self):
        self.check(put(0, [1, 11], []), [0], {(1, 10): [3, 9], (1, 11): []})


class Delete(OneKey):
    def test_where_the_key_holds(self):
        self.check(delete(0, [1], [5]), [0, 5, 9], {(1, 10): [3, 5], (2, 20): [0, 5, 8]})

    def test_several_rows_with_the_key(self):
        begun = BEGUN + [insert(0, [1, 11], [9, 12]), delete(0, [1], [8, 10])]
        self.assertEqual(last(*begun), [0, 8, 10])
        self.assertEqual(held(begun, 0, SHAPE, [[1, 10], [1, 11]]), {(1, 10): [3, 8], (1, 11): [10, 12]})

    def test_key_that_never_holds(self):
        self.check(delete(0, [3], ALWAYS), [0], {(1, 10): [3, 9], (2, 20): [0, 5, 8]})

    def test_moments_at_which_no_row_has_the_key(self):
        self.check(delete(0, [1], [0, 3, 9]), [0], {(1, 10): [3, 9], (2, 20): [0, 5, 8]})

    def test_key_of_several_columns(self):
        begun = [make(0, 3, 2), insert(0, [1, 1, 5], [3, 9]), insert(0, [1, 2, 5], [4, 9])]
        self.assertEqual(last(*begun, delete(0, [1, 2], ALWAYS)), [0, 4, 9])


class Set(OneKey):
    def test_where_the_key_holds(self):
        self.check(set_(0, 1, 11, [1], [5]), [0, 5, 9], {(1, 10): [3, 5], (1, 11): [5, 9], (2, 20): [0, 5, 8]})

    def test_number_that_is_there_already(self):
        self.check(set_(0, 1, 10, [1], ALWAYS), [0], {(1, 10): [3, 9]})

    def test_rows_that_become_the_same_row(self):
        begun = BEGUN + [set_(0, 1, 11, [1], [5, 7]), set_(0, 1, 12, [1], [4, 8])]
        self.assertEqual(last(*begun), [0, 4, 8])
        rows = [[1, 10], [1, 11], [1, 12]]
        self.assertEqual(held(begun, 0, SHAPE, rows), {(1, 10): [3, 4, 8, 9], (1, 11): [], (1, 12): [4, 8]})

    def test_other_columns_stay(self):
        begun = [make(0, 4, 2), insert(0, [1, 2, 3, 4], [5]), set_(0, 2, 9, [1, 2], [6])]
        rows = [[1, 2, 3, 4], [1, 2, 9, 4]]
        self.assertEqual(held(begun, 0, (4, 2), rows), {(1, 2, 3, 4): [5, 6], (1, 2, 9, 4): [6]})

    def test_key_that_never_holds(self):
        self.check(set_(0, 1, 11, [3], ALWAYS), [0], {(1, 10): [3, 9], (3, 11): []})

    def test_greatest_and_smallest_numbers(self):
        for x in (LARGE, -LARGE):
            self.check(set_(0, 1, x, [1], ALWAYS), [0, 3, 9], {(1, 10): [], (1, x): [3, 9]})


class Add(OneKey):
    def test_sum_with_what_is_there(self):
        self.check(add(0, 1, -4, [1], [5]), [0, 5, 9], {(1, 10): [3, 5], (1, 6): [5, 9], (2, 20): [0, 5, 8]})

    def test_nothing_added(self):
        self.check(add(0, 1, 0, [1], ALWAYS), [0], {(1, 10): [3, 9]})

    def test_each_moment_by_the_row_that_holds_then(self):
        begun = BEGUN + [set_(0, 1, 11, [1], [5, 7]), add(0, 1, 1, [1], [4, 8])]
        self.assertEqual(last(*begun), [0, 4, 8])
        rows = [[1, 10], [1, 11], [1, 12]]
        self.assertEqual(held(begun, 0, SHAPE, rows), {(1, 10): [3, 4, 8, 9], (1, 11): [4, 5, 7, 8], (1, 12): [5, 7]})

    def test_held_at_the_upper_end(self):
        self.check(add(0, 1, LARGE - 10, [1], [3]), [0, 3, 9], {(1, LARGE): [3, 9]})
        self.check(add(0, 1, LARGE - 9, [1], [3]), [0, 3, 9], {(1, LARGE): [3, 9]})
        self.check(add(0, 1, LARGE, [1], [3]), [0, 3, 9], {(1, LARGE): [3, 9]})

    def test_held_at_the_lower_end(self):
        begun = [make(0, 2, 1), insert(0, [1, -10], [3, 9])]
        for x in (-LARGE + 10, -LARGE + 9, -LARGE):
            calls = begun + [add(0, 1, x, [1], [3])]
            self.assertEqual(held(calls, 0, SHAPE, [[1, -LARGE]]), {(1, -LARGE): [3, 9]})

    def test_just_below_and_above_the_ends(self):
        self.check(add(0, 1, LARGE - 11, [1], [3]), [0, 3, 9], {(1, LARGE - 1): [3, 9], (1, LARGE): []})

    def test_held_already(self):
        begun = [make(0, 2, 1), insert(0, [1, LARGE], [3, 9]), insert(0, [2, -LARGE], [3, 9])]
        self.assertEqual(last(*begun, add(0, 1, 1, [1], ALWAYS)), [0])
        self.assertEqual(last(*begun, add(0, 1, -1, [2], ALWAYS)), [0])
