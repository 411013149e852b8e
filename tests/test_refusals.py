"""The refusals -1 to -5 of every change and question, and their order. Those of make and drop stand with these."""

import unittest

from tests.calls import HUGE, LARGE, LATEST, add, alive, ask, bounds, change, copy, count, cut, delete, differ, drop
from tests.calls import held, history, insert, last, make, merge, most, put, remove, rows, set_, take, total, uncovered
from tests.calls import when

# Table 1 has the widths of table 0, table 2 hasn't, table 3 isn't made.
SHAPES = [(3, 2), (3, 2), (3, 1)]
BEGUN = [make(t, w, k) for t, (w, k) in enumerate(SHAPES)] + [insert(t, [1, 2, 3], [3, 9]) for t in range(3)]

GOOD = {"t": 0, "u": 1, "c": 2, "op": 0, "x": 5, "d": 2, "y": 5, "m": 5, "row": [1, 2, 4], "key": [1, 2],
        "S": [20, 30]}
CHANGES = [
    (insert, ("t", "row", "S")),
    (put, ("t", "row", "S")),
    (delete, ("t", "key", "S")),
    (set_, ("t", "c", "x", "key", "S")),
    (add, ("t", "c", "x", "key", "S")),
    (change, ("t", "c", "op", "x", "d", "y", "S")),
    (remove, ("t", "c", "op", "x", "S")),
    (copy, ("t", "u", "S")),
    (merge, ("t", "u", "S")),
    (take, ("t", "u", "S")),
]
QUESTIONS = [
    (cut, ("t", "m")),
    (rows, ("t",)),
    (history, ("t", "key")),
    (when, ("t", "row")),
    (alive, ("t", "key")),
    (bounds, ("t",)),
    (count, ("t",)),
    (total, ("t", "c")),
    (most, ("t",)),
    (differ, ("t", "u")),
    (uncovered, ("t", "c", "u")),
]
CALLS = CHANGES + QUESTIONS

BAD_TABLES = (-HUGE, -1, 4, HUGE)
BAD_NUMBERS = (-HUGE, -LARGE - 1, LARGE + 1, HUGE)
BAD_COLUMNS = (-HUGE, -1, 3, HUGE)
BAD_SETS = [
    [-1], [-HUGE], [LATEST + 1], [HUGE], [5, 5], [5, 4], [3, 7, 6], [0, 0], [3, LATEST + 1], [-1, 5],
    list(range(65)), list(range(66)), list(range(200)), [7] * 200, [HUGE] * 65,
]


def bad_lists(good):
    """Lists of every other size from 0 to 20, and of the right size with a number out of its range."""
    lists = [[1] * size for size in range(21) if size != len(good)]
    for place in range(len(good)):
        for number in BAD_NUMBERS:
            lists.append(good[:place] + [number] + good[place + 1:])
    return lists


def faults(function):
    """For each refusal, the pairs of an argument and a value by which a call is refused so."""
    columns = BAD_COLUMNS + ((0, 1) if function in (set_, add) else ())
    unlike = (0, 1) if function == uncovered else (2,)
    return {
        -1: [("t", t) for t in BAD_TABLES] + [("u", u) for u in BAD_TABLES]
            + [("op", op) for op in (-HUGE, -1, 6, HUGE)]
            + [("x", x) for x in BAD_NUMBERS] + [("y", y) for y in BAD_NUMBERS]
            + [("m", m) for m in (-HUGE, -1, LATEST + 1, HUGE)],
        -2: [("t", 3), ("u", 3)],
        -3: [("u", u) for u in unlike],
        -4: [("c", c) for c in columns] + [("d", d) for d in BAD_COLUMNS],
        -5: [("row", row) for row in bad_lists(GOOD["row"])] + [("key", key) for key in bad_lists(GOOD["key"])]
            + [("S", S) for S in BAD_SETS],
    }


def written(function, names, wrong):
    good = dict(GOOD, u=2) if function == uncovered else GOOD
    return function(*[dict(good, **dict(wrong))[name] for name in names])


def answers_in_turn(calls):
    """The answers of refused calls asked one behind another: what is refused changes nothing."""
    given = []
    for begin in range(0, len(calls), 50):
        given += ask(BEGUN + calls[begin:begin + 50])[len(BEGUN):]
    return given


class Refusals(unittest.TestCase):
    def test_good_calls_are_not_refused(self):
        for function, names in CHANGES:
            self.assertEqual(last(*BEGUN, written(function, names, []))[0], 0, function.__name__)
        for function, names in QUESTIONS:
            self.assertGreaterEqual(last(*BEGUN, written(function, names, []))[0], 0, function.__name__)

    def test_each(self):
        for function, names in CALLS:
            for refusal, pairs in faults(function).items():
                wrong = [pair for pair in pairs if pair[0] in names]
                given = answers_in_turn([written(function, names, [pair]) for pair in wrong])
                self.assertEqual(given, [[refusal]] * len(wrong), (function.__name__, refusal, wrong))

    def test_order(self):
        for function, names in CALLS:
            found = faults(function)
            for first in found:
                for second in [refusal for refusal in found if refusal < first]:
                    self.check_order(function, names, first, found[first], found[second])

    def check_order(self, function, names, refusal, first, second):
        both = [(one, two) for one in first for two in second
                if one[0] in names and two[0] in names and one[0] != two[0]]
        given = answers_in_turn([written(function, names, pair) for pair in both])
        self.assertEqual(given, [[refusal]] * len(both), (function.__name__, refusal))

    def test_all_at_once(self):
        wrong = [("t", 4), ("u", -1), ("c", 3), ("op", 6), ("x", HUGE), ("d", 3), ("y", HUGE), ("m", -1), ("row", []),
                 ("key", []), ("S", [1, 1])]
        for function, names in CALLS:
            self.assertEqual(last(*BEGUN, written(function, names, wrong)), [-1], function.__name__)

    def test_edges_of_what_is_not_refused(self):
        ends = (-LARGE, LARGE)
        calls = [set_(0, 2, x, [1, 2], [0, LATEST]) for x in ends] + [add(0, 2, x, [1, 2], [LATEST]) for x in ends]
        calls += [change(0, c, op, x, d, y, []) for c in (0, 2) for op in (0, 5) for x in ends for d in (0, 2)
                  for y in ends]
        calls += [put(0, [x, y, x], list(range(64))) for x in ends for y in ends]
        calls += [delete(0, [x, y], [0, LATEST - 1, LATEST]) for x in ends for y in ends]
        self.assertEqual([answer[0] for answer in ask(BEGUN + calls)], [0] * len(BEGUN + calls))

    def test_edges_of_questions_that_are_not_refused(self):
        ends = (-LARGE, LARGE)
        calls = [history(0, [x, y]) for x in ends for y in ends] + [alive(0, [x, y]) for x in ends for y in ends]
        calls += [when(0, [x, y, x]) for x in ends for y in ends] + [cut(0, 0), cut(0, LATEST)]
        self.assertEqual(ask(BEGUN + calls)[len(BEGUN):], [[0]] * len(calls))
        self.assertEqual([last(*BEGUN, total(0, c))[3:] for c in range(3)], [[3, 1, 9, 0], [3, 2, 9, 0], [3, 3, 9, 0]])

    def test_set_and_add_in_a_table_that_is_all_key(self):
        begun = [make(0, 2, 2), insert(0, [1, 2], [3, 9])]
        for c in (0, 1, 2):
            self.assertEqual(last(*begun, set_(0, c, 5, [1, 2], [3])), [-4])
            self.assertEqual(last(*begun, add(0, c, 5, [1, 2], [3])), [-4])

    def test_tables_of_the_same_width_but_not_key_width_and_the_other_way_round(self):
        begun = [make(0, 3, 1), make(1, 3, 2), make(2, 2, 1)]
        for function in (copy, merge, take):
            self.assertEqual(last(*begun, function(0, 1, [3])), [-3])
            self.assertEqual(last(*begun, function(0, 2, [3])), [-3])

    def test_both_tables_not_made(self):
        for function in (copy, merge, take):
            self.assertEqual(last(function(0, 0, [5, 5])), [-2])
            self.assertEqual(last(function(0, 1, [5, 5])), [-2])
        self.assertEqual(last(differ(0, 0)), [-2])
        self.assertEqual(last(differ(0, 1)), [-2])
        self.assertEqual(last(uncovered(0, HUGE, 0)), [-2])

    def test_questions_when_no_table_is_made(self):
        for function, names in QUESTIONS:
            self.assertEqual(last(written(function, names, [])), [-2], function.__name__)

    def test_a_dropped_table_is_refused(self):
        for function, names in CALLS:
            self.assertEqual(last(*BEGUN, drop(0), written(function, names, [])), [-2], function.__name__)

    def check_unchanged(self, calls):
        self.assertLess(len(calls), 100)
        for t in range(3):
            found = held(BEGUN + calls, t, SHAPES[t], [[1, 2, 3], [1, 2, 4], [1, 2, 5]])
            self.assertEqual(found, {(1, 2, 3): [3, 9], (1, 2, 4): [], (1, 2, 5): []})
            self.assertEqual(last(*BEGUN, *calls, rows(t)), [1, 1, 2, 3, 2, 3, 9])

    def test_rows_are_the_same_after_refusals(self):
        for listed in (CHANGES, QUESTIONS):
            calls = []
            for function, names in listed:
                for pairs in faults(function).values():
                    calls += [written(function, names, [pair]) for pair in pairs if pair[0] in names][:2]
            self.check_unchanged(calls)

    def test_rows_are_the_same_after_questions(self):
        self.check_unchanged([written(function, names, []) for function, names in QUESTIONS] * 2)
