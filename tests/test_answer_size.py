"""The refusal -30: a question's answer of more than 8000 numbers."""

import unittest

from overtime.questions import limited
from tests.calls import HUGE, alive, ask, bounds, count, delete, differ, history, insert, last, make, most, rows, total
from tests.calls import uncovered


def filled(number, t=0, w=2):
    """A table with so many bounds in all, no two alike, shared out to rows with one key, 64 to a row."""
    calls = [make(t, w, 1)]
    for begin in range(0, number, 64):
        S = list(range(begin + 1, min(begin + 64, number) + 1))
        calls.append(insert(t, [1] + [begin + 1] * (w - 1), S))
    return calls


class Limit(unittest.TestCase):
    def test_8000_numbers_are_no_refusal(self):
        # No question's answer can have just 8000 numbers: those of count and total are odd in number, those of history
        # are one more than a multiple of 3 to 8, and the others stay below in a list of 120 calls.
        self.assertEqual(limited([7] * 8000), [7] * 8000)
        self.assertEqual(limited([7] * 8001), [-30])
        self.assertEqual(limited([0]), [0])


class Count(unittest.TestCase):
    def test_7999_and_8001_numbers(self):
        answer = last(*filled(3998), count(0))
        self.assertEqual(len(answer), 7999)
        self.assertEqual(answer[:5], [3999, 0, 0, 1, 1])
        self.assertEqual(last(*filled(3999), count(0)), [-30])
        self.assertEqual(last(*filled(4096), count(0)), [-30])


class Total(unittest.TestCase):
    def test_7999_and_8001_numbers(self):
        for c in (0, 1):
            self.assertEqual(len(last(*filled(3998), total(0, c))), 7999)
            self.assertEqual(last(*filled(3999), total(0, c)), [-30])
        self.assertEqual(last(*filled(4096), total(0, 1)), [-30])

    def test_few_entries_of_many_rows(self):
        # The answer's size counts, not the table's: with a sum that stays 0 there is one entry.
        calls = [make(0, 2, 2)] + [insert(0, [row, 0], list(range(row * 64, row * 64 + 64))) for row in range(64)]
        self.assertEqual(last(*calls, total(0, 1)), [1, 0, 0])
        self.assertEqual(last(*calls, total(0, 0)), [-30])

    def test_looked_at_last(self):
        for c in (-HUGE, -1, 2, HUGE):
            self.assertEqual(last(*filled(4096), total(0, c)), [-4])
        self.assertEqual(last(*filled(4096), total(1, 0)), [-2])
        self.assertEqual(last(*filled(4096), total(4, 0)), [-1])


class History(unittest.TestCase):
    def test_7993_and_8001_numbers(self):
        answer = last(*filled(1998, 0, 6), history(0, [1]))
        self.assertEqual(len(answer), 7993)
        self.assertEqual(answer[:9], [999, 1, 2, 1, 1, 1, 1, 1, 1])
        self.assertEqual(last(*filled(2000, 0, 6), history(0, [1])), [-30])
        self.assertEqual(last(*filled(1999, 0, 6), history(0, [1])), [-30])

    def test_narrower_rows(self):
        self.assertEqual(len(last(*filled(3998), history(0, [1]))), 7997)
        self.assertEqual(last(*filled(4000), history(0, [1])), [-30])

    def test_looked_at_last(self):
        for key in ([], [1, 1], [HUGE], [-10 ** 12]):
            self.assertEqual(last(*filled(4096), history(0, key)), [-5])
        self.assertEqual(last(*filled(4096), history(1, [])), [-2])
        self.assertEqual(last(*filled(4096), history(4, [])), [-1])

    def test_another_key_is_not_refused(self):
        self.assertEqual(last(*filled(4096), history(0, [2])), [0])


class Others(unittest.TestCase):
    def test_questions_about_a_full_table_that_stay_below(self):
        everything = [4096] + list(range(1, 4097))
        self.assertEqual(last(*filled(4096), bounds(0)), everything)
        self.assertEqual(last(*filled(4096), alive(0, [1])), everything)
        self.assertEqual(last(*filled(4096), make(1, 2, 1), differ(0, 1)), everything)
        self.assertEqual(last(*filled(4096), make(1, 2, 1), uncovered(0, 1, 1)), everything)
        self.assertEqual(last(*filled(4096), most(0)), [1, 1])
        self.assertEqual(len(last(*filled(4096), rows(0))), 1 + 64 * 67)

    def test_a_refused_question_changes_nothing(self):
        calls = filled(4096)
        asked = [count(0), total(0, 1), history(0, [1]), rows(0), delete(0, [1], [3]), count(0)]
        given = ask(calls + asked)[len(calls):]
        self.assertEqual(given[:3], [[-30]] * 3)
        self.assertEqual(given[3], last(*calls, rows(0)))
        self.assertEqual(given[4][:4], [0, 3, 4, 5])
        self.assertEqual(given[5], [3, 0, 0, 1, 1, 2, 0])
