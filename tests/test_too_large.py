"""The refusal -6: more than 64 rows, or a row with more than 64 bounds."""

import unittest

from tests.calls import ALWAYS, LATEST, add, change, copy, delete, held, insert, last, make, merge, put, remove, set_
from tests.calls import take

SHAPE = (2, 1)
# 32 pieces of five moments each.
BOUNDS = [10 * piece + step for piece in range(32) for step in (0, 5)]


def rows(number, t=0):
    """A table with so many rows, each with a key of its own, from 10 to 20."""
    return [make(t, 2, 1)] + [insert(t, [key, 0], [10, 20]) for key in range(number)]


def bounds(number, t=0):
    """A table with one row that has so many bounds."""
    return [make(t, 2, 1), insert(t, [1, 0], BOUNDS[:number])]


class TooMany(unittest.TestCase):
    def check(self, calls, call, is_refused):
        answer = last(*calls, call)
        self.assertEqual(answer == [-6], is_refused, answer)
        if not is_refused:
            self.assertEqual(answer[0], 0)

    def check_rows(self, call, before=()):
        """A call that brings one row more is refused with 64 rows, and isn't with 63."""
        self.check(list(before) + rows(64), call, True)
        self.check(list(before) + rows(63), call, False)

    def check_bounds(self, call, before=()):
        """A call that brings two bounds more is refused with 64 bounds, and isn't with 62."""
        self.check(list(before) + bounds(64), call, True)
        self.check(list(before) + bounds(63), call, True)
        self.check(list(before) + bounds(62), call, False)


class Rows(TooMany):
    def test_insert(self):
        self.check_rows(insert(0, [99, 0], [10]))

    def test_each_row_counts_whenever_it_holds(self):
        self.check_rows(insert(0, [99, 0], [50, 51]))
        self.check_rows(insert(0, [1, 5], [50, 51]))

    def test_a_row_counts_once(self):
        self.check(rows(64), insert(0, [1, 0], [50, 51]), False)

    def test_put(self):
        self.check_rows(put(0, [99, 0], [10]))
        self.check_rows(put(0, [1, 5], [11]))

    def test_put_in_the_place_of_a_row(self):
        self.check(rows(64), put(0, [1, 5], [10, 20]), False)

    def test_set(self):
        self.check_rows(set_(0, 1, 5, [1], [11]))
        self.check(rows(64), set_(0, 1, 5, [1], ALWAYS), False)

    def test_add(self):
        self.check_rows(add(0, 1, 5, [1], [11]))
        self.check(rows(64), add(0, 1, 5, [1], ALWAYS), False)

    def test_change(self):
        self.check_rows(change(0, 0, 0, 1, 1, 5, [11]))
        self.check(rows(64), change(0, 0, 0, 1, 1, 5, ALWAYS), False)
        self.check_rows(change(0, 0, 0, 1, 0, 99, [11]))

    def test_copy(self):
        other = [make(1, 2, 1), insert(1, [99, 0], ALWAYS)]
        self.check_rows(copy(0, 1, [11]), other)
        self.check(other + rows(64), copy(0, 1, ALWAYS), False)

    def test_merge(self):
        self.check_rows(merge(0, 1, [11]), [make(1, 2, 1), insert(1, [99, 0], ALWAYS)])

    def test_calls_that_bring_no_row(self):
        for call in (delete(0, [1], [11]), remove(0, 0, 0, 1, [11]), take(0, 0, [11]), copy(0, 0, [11])):
            self.check(rows(64), call, False)

    def test_a_row_that_is_gone_does_not_count(self):
        self.check(rows(64) + [delete(0, [1], ALWAYS)], insert(0, [99, 0], [10]), False)

    def test_other_tables_do_not_count(self):
        self.check(rows(50, 1) + rows(50), insert(0, [99, 0], [10]), False)

    def test_nothing_is_changed(self):
        calls = rows(64) + [insert(0, [99, 0], [10]), set_(0, 1, 5, [1], [11])]
        asked = [[1, 0], [1, 5], [99, 0]]
        self.assertEqual(held(calls, 0, SHAPE, asked), {(1, 0): [10, 20], (1, 5): [], (99, 0): []})

    def test_clash_comes_first(self):
        self.assertEqual(last(*rows(64), insert(0, [1, 5], [0, 5, 12])), [1, 12])
        self.assertEqual(last(*rows(64), change(0, 0, 0, 1, 0, 2, [12])), [1, 12])

    def test_wrong_list_comes_first(self):
        self.assertEqual(last(*rows(64), insert(0, [99, 0], [12, 12])), [-5])


class Bounds(TooMany):
    def test_insert(self):
        self.check(bounds(64), insert(0, [1, 0], [LATEST - 1, LATEST]), True)
        self.check(bounds(62), insert(0, [1, 0], [LATEST - 1, LATEST]), False)

    def test_65_bounds(self):
        self.check(bounds(64), insert(0, [1, 0], [LATEST]), True)
        self.check(bounds(62), insert(0, [1, 0], [LATEST]), False)

    def test_put(self):
        self.check_bounds(put(0, [1, 5], [2, 3]))
        self.check_bounds(put(0, [1, 0], [6, 7]))

    def test_fewer_bounds_by_filling_a_gap(self):
        self.check(bounds(64), put(0, [1, 0], [5, 10]), False)
        self.check(bounds(64), insert(0, [1, 0], [5, 10]), False)

    def test_delete(self):
        self.check_bounds(delete(0, [1], [2, 3]))
        self.check(bounds(64), delete(0, [1], [0, 3]), False)

    def test_set(self):
        self.check_bounds(set_(0, 1, 5, [1], [2, 3]))

    def test_add(self):
        self.check_bounds(add(0, 1, 5, [1], [2, 3]))

    def test_change(self):
        self.check_bounds(change(0, 0, 0, 1, 1, 5, [2, 3]))

    def test_remove(self):
        self.check_bounds(remove(0, 0, 0, 1, [2, 3]))

    def test_copy(self):
        self.check_bounds(copy(0, 1, [2, 3]), [make(1, 2, 1)])

    def test_merge(self):
        self.check_bounds(merge(0, 1, [2, 3]), [make(1, 2, 1), insert(1, [1, 5], ALWAYS)])
        self.check_bounds(merge(0, 1, [6, 7]), [make(1, 2, 1), insert(1, [1, 0], ALWAYS)])

    def test_take(self):
        self.check_bounds(take(0, 1, [2, 3]), [make(1, 2, 1), insert(1, [1, 0], ALWAYS)])

    def test_a_row_that_others_become(self):
        # The changed rows, not only those that the call names, are looked at.
        calls = bounds(64) + [insert(0, [2, 0], [6, 7])]
        self.check(calls, change(0, 0, 0, 2, 0, 1, ALWAYS), True)

    def test_nothing_is_changed(self):
        calls = bounds(64) + [delete(0, [1], [2, 3]), put(0, [1, 5], [2, 3])]
        self.assertEqual(held(calls, 0, SHAPE, [[1, 0], [1, 5]]), {(1, 0): BOUNDS, (1, 5): []})

    def test_clash_comes_first(self):
        self.assertEqual(last(*bounds(64), insert(0, [1, 0], [6, 7, 12, 13])), [1, 12])
