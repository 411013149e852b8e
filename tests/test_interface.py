import unittest

from overtime.tables import answers
from tests.calls import add, change, copy, delete, drop, insert, make, merge, put, remove, set_, take, uncovered

CALLS = [
    make(0, 2, 1), make(1, 2, 1), insert(0, [1, 5], [3, 9]), put(1, [1, 6], [4, 5, 8]), set_(0, 1, 7, [1], [5]),
    add(0, 1, 2, [1], [6]), change(0, 1, 5, 7, 0, 2, [7]), merge(0, 1, [0]), uncovered(0, 1, 1), remove(0, 0, 0, 1, [4]),
    copy(1, 0, [2]), take(0, 1, [3, 4]), delete(1, [1], [0]), insert(0, [2, 2], [0]), insert(5, [], []), drop(1),
]
NUMBERS = [number for call in CALLS for number in call]


class Untouched(list):
    """A list that can't be changed, not for a while either."""

    def refuse(self, *arguments):
        raise AssertionError("what is handed in is changed")

    append = extend = insert = pop = remove = clear = sort = reverse = refuse
    __setitem__ = __delitem__ = __iadd__ = __imul__ = refuse


class Interface(unittest.TestCase):
    def test_form_of_the_calls_and_answers(self):
        calls = [0, 0, 2, 1, 2, 0, 2, 7, 5, 3, 3, 7, 9, 4, 0, 1, 7, 2, 5, 8, 2, 0, 2, 7, 1, 1, 0, 4, 0, 0, 0, 1, 0]
        self.assertEqual(answers(calls), [1, 0, 4, 0, 3, 7, 9, 3, 0, 5, 7, 2, 1, 3, 1, -5, 1, 0])

    def test_number_of_each_call(self):
        calls = [0, 0, 2, 1] + [0, 1, 2, 1]
        calls += [2, 0, 2, 7, 5, 2, 3, 9]
        calls += [3, 0, 2, 7, 6, 1, 8]
        calls += [4, 0, 1, 7, 2, 3, 4]
        calls += [5, 0, 1, 9, 1, 7, 2, 4, 5]
        calls += [6, 0, 1, -1, 1, 7, 2, 5, 6]
        calls += [7, 0, 1, 4, 5, 0, 8, 1, 8]
        calls += [8, 0, 1, 0, 4, 1, 0]
        calls += [9, 1, 0, 2, 0, 7]
        calls += [10, 1, 0, 1, 6]
        calls += [11, 0, 1, 2, 0, 5]
        calls += [22, 1, 0, 0]
        calls += [1, 0]
        wanted = [[0], [0], [0, 3, 9], [0, 8], [0, 3, 4], [0, 4, 5], [0, 5, 6], [0, 8], [0, 5, 6], [0, 4, 5, 6, 7],
                  [0, 7], [0, 4, 5], [2, 4, 5], [0]]
        flat = []
        for answer in wanted:
            flat += [len(answer)] + answer
        self.assertEqual(answers(calls), flat)

    def test_what_is_handed_in_is_not_changed(self):
        given = list(NUMBERS)
        answers(given)
        self.assertEqual(given, NUMBERS)

    def test_what_is_handed_in_is_not_changed_for_a_while_either(self):
        self.assertEqual(answers(Untouched(NUMBERS)), answers(NUMBERS))

    def test_nothing_is_kept(self):
        first = answers(NUMBERS)
        answers([0, 3, 2, 1, 2, 3, 2, 1, 1, 1, 0])
        self.assertEqual(answers(NUMBERS), first)

    def test_what_is_given_back_is_new_each_time(self):
        first = answers(NUMBERS)
        wanted = list(first)
        first.clear()
        self.assertEqual(answers(NUMBERS), wanted)

    def test_whole_numbers_alone(self):
        given = answers(NUMBERS)
        self.assertIs(type(given), list)
        self.assertEqual({type(number) for number in given}, {int})

    def test_120_calls(self):
        calls = make(0, 1, 1)
        for number in range(119):
            calls = calls + put(0, [number % 60], [number])
        self.assertEqual(answers(calls)[:8], [1, 0, 2, 0, 0, 2, 0, 1])
        self.assertEqual(len(answers(calls)), 2 + 60 * 3 + 59 * 2)
