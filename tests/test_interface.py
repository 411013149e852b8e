import unittest

from overtime.tables import answers
from tests.calls import LATEST, add, alive, bounds, change, copy, count, cut, delete, differ, drop, history, insert
from tests.calls import make, merge, most, put, remove, rows, set_, take, total, uncovered, when

CALLS = [
    make(0, 2, 1), make(1, 2, 1), insert(0, [1, 5], [3, 9]), put(1, [1, 6], [4, 5, 8]), set_(0, 1, 7, [1], [5]),
    add(0, 1, 2, [1], [6]), change(0, 1, 5, 7, 0, 2, [7]), merge(0, 1, [0]), uncovered(0, 1, 1),
    remove(0, 0, 0, 1, [4]),
    cut(0, 5), rows(0), history(0, [1]), when(0, [1, 5]), alive(0, [1]), bounds(0), count(0), total(0, 1), most(0),
    differ(0, 1), history(0, []), cut(0, -1), total(0, 2),
    copy(1, 0, [2]), take(0, 1, [3, 4]), delete(1, [1], [0]), insert(0, [2, 2], [0]), insert(5, [], []), rows(1),
    drop(1),
]
NUMBERS = [number for call in CALLS for number in call]


class Untouched(list):
    """A list that can't be changed, not for a while either."""

    def refuse(self, *arguments):
        raise AssertionError("what is handed in is changed")

    append = extend = insert = pop = remove = clear = sort = reverse = refuse
    __setitem__ = __delitem__ = __iadd__ = __imul__ = refuse


class Interface(unittest.TestCase):
    def test_form_of_the_calls_and_answers(self):
        calls = [0, 0, 2, 1, 2, 0, 2, 7, 5, 3, 3, 7, 9, 4, 0, 1, 7, 2, 5, 8, 2, 0, 2, 7, 1, 1, 0, 4, 0, 0, 0, 1, 0]
        self.assertEqual(answers(calls), [1, 0, 4, 0, 3, 7, 9, 3, 0, 5, 7, 2, 1, 3, 1, -5, 1, 0])

    def test_number_of_each_call(self):
        calls = [0, 0, 2, 1] + [0, 1, 2, 1]
        calls += [2, 0, 2, 7, 5, 2, 3, 9]
        calls += [3, 0, 2, 7, 6, 1, 8]
        calls += [4, 0, 1, 7, 2, 3, 4]
        calls += [5, 0, 1, 9, 1, 7, 2, 4, 5]
        calls += [6, 0, 1, -1, 1, 7, 2, 5, 6]
        calls += [7, 0, 1, 4, 5, 0, 8, 1, 8]
        calls += [8, 0, 1, 0, 4, 1, 0]
        calls += [9, 1, 0, 2, 0, 7]
        calls += [10, 1, 0, 1, 6]
        calls += [11, 0, 1, 2, 0, 5]
        calls += [22, 1, 0, 0]
        calls += [1, 0]
        wanted = [[0], [0], [0, 3, 9], [0, 8], [0, 3, 4], [0, 4, 5], [0, 5, 6], [0, 8], [0, 5, 6], [0, 4, 5, 6, 7],
                  [0, 7], [0, 4, 5], [2, 4, 5], [0]]
        flat = []
        for answer in wanted:
            flat += [len(answer)] + answer
        self.assertEqual(answers(calls), flat)

    def test_number_of_each_question(self):
        calls = [0, 0, 2, 1] + [0, 1, 2, 1] + [2, 0, 2, 7, 5, 2, 3, 9] + [2, 0, 2, 7, 6, 1, 9] + [2, 1, 2, 5, 5, 1, 4]
        calls += [12, 0, 4]
        calls += [13, 0]
        calls += [14, 0, 1, 7]
        calls += [15, 0, 2, 7, 5]
        calls += [16, 0, 1, 7]
        calls += [17, 0]
        calls += [18, 0]
        calls += [19, 0, 1]
        calls += [20, 0]
        calls += [21, 0, 1]
        calls += [22, 0, 1, 1]
        wanted = [[0], [0], [0, 3, 9], [0, 9], [0, 4], [1, 7, 5], [2, 7, 5, 2, 3, 9, 7, 6, 1, 9],
                  [2, 3, 9, 7, 5, 9, -1, 7, 6], [2, 3, 9], [1, 3], [2, 3, 9], [2, 0, 0, 3, 1], [3, 0, 0, 3, 5, 9, 6],
                  [1, 3], [1, 3], [3, 3, 4, 9]]
        flat = []
        for answer in wanted:
            flat += [len(answer)] + answer
        self.assertEqual(answers(calls), flat)

    def test_rows_of_an_empty_table(self):
        self.assertEqual(answers([0, 0, 1, 1, 13, 0]), [1, 0, 1, 0])

    def test_what_is_handed_in_is_not_changed(self):
        given = list(NUMBERS)
        answers(given)
        self.assertEqual(given, NUMBERS)

    def test_what_is_handed_in_is_not_changed_for_a_while_either(self):
        self.assertEqual(answers(Untouched(NUMBERS)), answers(NUMBERS))

    def test_nothing_is_kept(self):
        first = answers(NUMBERS)
        answers([0, 3, 2, 1, 2, 3, 2, 1, 1, 1, 0])
        self.assertEqual(answers(NUMBERS), first)

    def test_what_is_given_back_is_new_each_time(self):
        first = answers(NUMBERS)
        wanted = list(first)
        first.clear()
        self.assertEqual(answers(NUMBERS), wanted)

    def test_whole_numbers_alone(self):
        given = answers(NUMBERS)
        self.assertIs(type(given), list)
        self.assertEqual({type(number) for number in given}, {int})

    def test_120_calls(self):
        calls = make(0, 1, 1)
        for number in range(119):
            calls = calls + put(0, [number % 60], [number])
        self.assertEqual(answers(calls)[:8], [1, 0, 2, 0, 0, 2, 0, 1])
        self.assertEqual(len(answers(calls)), 2 + 60 * 3 + 59 * 2)

    def test_120_questions(self):
        calls = make(0, 1, 1) + insert(0, [5], [3]) + rows(0) * 118
        self.assertEqual(answers(calls), [1, 0, 2, 0, 3] + [4, 1, 5, 1, 3] * 118)

    def test_close_to_17000_numbers(self):
        # 80 refused sets of 200 numbers each, between the calls that are answered.
        calls = make(0, 6, 1) + insert(0, [1, 2, 3, 4, 5, 6], [0, LATEST])
        for number in range(80):
            calls = calls + put(0, [1, 2, 3, 4, 5, number], [LATEST - number] * 200)
        calls = calls + cut(0, 3) + when(0, [0] * 20) + history(0, [1]) + count(0)
        self.assertGreater(len(calls), 16800)
        self.assertLessEqual(len(calls), 17000)
        wanted = [1, 0, 3, 0, 0, LATEST] + [1, -5] * 80 + [7, 1, 1, 2, 3, 4, 5, 6, 1, -5]
        wanted += [9, 1, 0, LATEST, 1, 2, 3, 4, 5, 6, 5, 2, 0, 1, LATEST, 0]
        given = list(calls)
        self.assertEqual(answers(given), wanted)
        self.assertEqual(given, calls)
        self.assertEqual(answers(given), wanted)

    def test_many_long_answers(self):
        # 62 rows with 64 bounds each: 3969 entries, and 57 calls that ask for all of them.
        calls = make(0, 2, 1)
        for begin in range(1, 3968, 64):
            calls = calls + insert(0, [1, begin], list(range(begin, begin + 64)))
        entries = [number for moment in range(3969) for number in (moment, moment % 2)]
        given = answers(calls + count(0) * 57)
        self.assertEqual(given[-57 * 7940:], ([7939, 3969] + entries) * 57)
