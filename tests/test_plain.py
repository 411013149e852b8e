"""Many mixed lists of calls, held against the tables told moment by moment."""

import random
import unittest

from tests import calls as written
from tests.calls import LARGE, LATEST, ask, held
from tests.plain import Plain

CHANGES = ["insert", "put", "delete", "set_", "add", "change", "remove", "copy", "merge", "take"]
QUESTIONS = ["cut", "rows", "history", "when", "alive", "bounds", "count", "total", "most", "differ", "uncovered"]
NAMES = CHANGES * 2 + QUESTIONS
GROWING = NAMES + ["insert", "put", "set_", "add", "merge"] * 8


class Mixed:
    """A list of calls by chance, from a seed, for tables with the given numbers in their rows."""

    def __init__(self, seed, points, numbers, shapes, most_bounds, names=NAMES):
        self.chance = random.Random(seed)
        self.points = points
        self.numbers = numbers
        self.shapes = shapes
        self.most_bounds = most_bounds
        self.names = names

    def number(self):
        return self.chance.choice(self.numbers)

    def a_list(self, size):
        return [self.number() for _ in range(size)]

    def bounds(self):
        if self.chance.random() < 0.2:
            return [0]
        size = self.chance.randint(0, min(self.most_bounds, len(self.points)))
        return sorted(self.chance.sample(self.points, size))

    def call(self):
        name = self.chance.choice(self.names)
        t = self.chance.randrange(len(self.shapes))
        u = self.chance.randrange(len(self.shapes))
        w, k = self.shapes[t]
        if name in ("insert", "put"):
            return name, [t, self.a_list(w), self.bounds()]
        if name == "delete":
            return name, [t, self.a_list(k), self.bounds()]
        if name in ("set_", "add"):
            if k == w:
                return "insert", [t, self.a_list(w), self.bounds()]
            return name, [t, self.chance.randrange(k, w), self.number(), self.a_list(k), self.bounds()]
        c = self.chance.randrange(w)
        if name == "change":
            return name, [t, c, self.chance.randrange(6), self.number(), self.chance.randrange(w), self.number(),
                          self.bounds()]
        if name == "remove":
            return name, [t, c, self.chance.randrange(6), self.number(), self.bounds()]
        if name in QUESTIONS:
            return self.question(name, t, u)
        return name, [t, u, self.bounds()]

    def question(self, name, t, u):
        w, k = self.shapes[t]
        if name == "cut":
            return name, [t, self.moment()]
        if name in ("history", "alive"):
            return name, [t, self.a_list(k)]
        if name == "when":
            return name, [t, self.a_list(w)]
        if name == "total":
            return name, [t, self.chance.randrange(w)]
        if name == "differ":
            return name, [t, u]
        if name == "uncovered":
            return name, [t, self.chance.randrange(w), u]
        return name, [t]

    def moment(self):
        """A point, or a moment close to one."""
        near = self.chance.choice(self.points) + self.chance.choice((-1, 0, 0, 1))
        return min(LATEST, max(0, near))


class AgainstPlain(unittest.TestCase):
    def check(self, mixed, size):
        """The first numbers that changes answered, so that a test can tell that it has met them all."""
        plain = Plain(mixed.points)
        chosen = [("make", [t, w, k]) for t, (w, k) in enumerate(mixed.shapes)]
        chosen += [mixed.call() for _ in range(size)]
        chosen += [mixed.question(name, t, t ^ 1) for t in range(len(mixed.shapes)) for name in QUESTIONS]
        listed = [getattr(written, name)(*arguments) for name, arguments in chosen]
        given = ask(listed)
        for place, (name, arguments) in enumerate(chosen):
            self.assertEqual(given[place], getattr(plain, name)(*arguments), chosen[:place + 1])
        for t, shape in enumerate(mixed.shapes):
            self.check_rows(listed, t, shape, plain)
        return {answer[0] for answer, (name, arguments) in zip(given, chosen) if name in CHANGES}

    def check_rows(self, listed, t, shape, plain):
        states = plain.tables[t][2]
        rows = sorted(frozenset().union(*states))
        wanted = {row: plain.held_for(row, states) for row in rows}
        self.assertEqual(held(listed, t, shape, rows), wanted)

    def test_few_moments_and_numbers(self):
        points = [0, 1, 2, 3, 5, 8, 9, LATEST - 1, LATEST]
        seen = set()
        for seed in range(150):
            mixed = Mixed(seed, points, [0, 1, 2], [(2, 1), (2, 1), (3, 2), (3, 2)], 9)
            seen |= self.check(mixed, 60)
        self.assertLessEqual({0, 1, -3}, seen)

    def test_keys_of_one_column_and_of_all(self):
        points = list(range(12))
        for seed in range(60):
            mixed = Mixed(seed, points, [-LARGE, -1, 0, 1, LARGE], [(3, 1), (3, 1), (2, 2), (2, 2)], 6)
            self.check(mixed, 60)

    def test_one_wide_and_six_wide(self):
        points = list(range(6))
        for seed in range(40):
            mixed = Mixed(seed, points, [0, 1], [(1, 1), (1, 1), (6, 3), (6, 3)], 4)
            self.check(mixed, 60)

    def test_tables_that_grow_too_large(self):
        points = list(range(140))
        seen = set()
        for seed in range(12):
            mixed = Mixed(seed, points, list(range(6)), [(2, 1), (2, 1), (3, 2), (3, 2)], 64, GROWING)
            seen |= self.check(mixed, 110)
        self.assertLessEqual({0, 1, -3, -6}, seen)
