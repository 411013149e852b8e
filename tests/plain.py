"""The tables told moment by moment, as the document's words have it, to be held against the program.

The points are the moments at which anything may begin or end: each stands for the moments up to the next one, and the
last for all moments from it on.
"""

LARGE = 999999999999


class Plain:
    def __init__(self, points):
        self.points = points
        self.tables = {}

    def make(self, t, w, k):
        if t in self.tables:
            return [-2]
        self.tables[t] = (w, k, [frozenset() for _ in self.points])
        return [0]

    def drop(self, t):
        if t not in self.tables:
            return [-2]
        self.tables.pop(t)
        return [0]

    def insert(self, t, row, S):
        return self.apply(t, t, S, lambda rows, others: rows + [tuple(row)])

    def put(self, t, row, S):
        return self.apply(t, t, S, lambda rows, others: self.put_in(t, rows, tuple(row)))

    def delete(self, t, key, S):
        return self.apply(t, t, S, lambda rows, others: [row for row in rows if self.key(t, row) != tuple(key)])

    def set_(self, t, c, x, key, S):
        return self.renew(t, key, S, c, lambda number: x)

    def add(self, t, c, x, key, S):
        return self.renew(t, key, S, c, lambda number: max(-LARGE, min(LARGE, number + x)))

    def renew(self, t, key, S, c, what):
        def rule(rows, others):
            return [swap(row, c, what(row[c])) if self.key(t, row) == tuple(key) else row for row in rows]
        return self.apply(t, t, S, rule)

    def change(self, t, c, op, x, d, y, S):
        def rule(rows, others):
            return [swap(row, d, y) if fits(row[c], op, x) else row for row in rows]
        return self.apply(t, t, S, rule)

    def remove(self, t, c, op, x, S):
        return self.apply(t, t, S, lambda rows, others: [row for row in rows if not fits(row[c], op, x)])

    def copy(self, t, u, S):
        return self.apply(t, u, S, lambda rows, others: list(others))

    def merge(self, t, u, S):
        def rule(rows, others):
            for row in others:
                rows = self.put_in(t, rows, row)
            return rows
        return self.apply(t, u, S, rule)

    def take(self, t, u, S):
        return self.apply(t, u, S, lambda rows, others: [row for row in rows if row not in others])

    def cut(self, t, m):
        states = self.tables[t][2]
        rows = [state for point, state in zip(self.points, states) if point <= m][-1]
        return flat(sorted(rows))

    def rows(self, t):
        states = self.tables[t][2]
        found = sorted(frozenset().union(*states))
        return [len(found)] + [number for row in found for number in row + tuple(listed(self.held_for(row, states)))]

    def history(self, t, key):
        """Walks the moments: an entry begins where another row has the key than before, and ends likewise."""
        entries = []
        before = None
        for point, rows in zip(self.points, self.tables[t][2]):
            now = ([row for row in rows if self.key(t, row) == tuple(key)] + [None])[0]
            if now != before:
                if before is not None:
                    entries[-1][1] = point
                if now is not None:
                    entries.append([point, -1] + list(now))
            before = now
        return flat(entries)

    def when(self, t, row):
        return listed(self.held_for(tuple(row), self.tables[t][2]))

    def alive(self, t, key):
        return listed(self.bounds_of([tuple(key) in [self.key(t, row) for row in rows] for rows in self.tables[t][2]]))

    def bounds(self, t):
        states = self.tables[t][2]
        pairs = zip(self.points, [frozenset()] + states, states)
        return listed([point for point, before, now in pairs if before != now])

    def count(self, t):
        return self.values([len(rows) for rows in self.tables[t][2]])

    def total(self, t, c):
        return self.values([sum(row[c] for row in rows) for rows in self.tables[t][2]])

    def values(self, numbers):
        pairs = zip(self.points, [None] + numbers, numbers)
        return flat([(point, now) for point, before, now in pairs if before != now])

    def most(self, t):
        sizes = [len(rows) for rows in self.tables[t][2]]
        return [max(sizes), self.points[sizes.index(max(sizes))]]

    def differ(self, t, u):
        if self.tables[t][:2] != self.tables[u][:2]:
            return [-3]
        return listed(self.bounds_of([left != right for left, right in zip(self.tables[t][2], self.tables[u][2])]))

    def uncovered(self, t, c, u):
        if self.tables[u][1] != 1:
            return [-3]
        pairs = zip(self.tables[t][2], self.tables[u][2])
        return listed(self.bounds_of([any(row[c] not in [other[0] for other in others] for row in rows)
                                      for rows, others in pairs]))

    def key(self, t, row):
        return row[:self.tables[t][1]]

    def put_in(self, t, rows, row):
        return [other for other in rows if self.key(t, other) != self.key(t, row)] + [row]

    def apply(self, t, u, S, rule):
        if t not in self.tables or u not in self.tables:
            return [-2]
        if self.tables[t][:2] != self.tables[u][:2]:
            return [-3]
        w, k, before = self.tables[t]
        after = []
        for place, point in enumerate(self.points):
            rows = before[place]
            if len([bound for bound in S if bound <= point]) % 2 == 1:
                rows = rule(sorted(rows), sorted(self.tables[u][2][place]))
                if len({self.key(t, row) for row in rows}) < len(rows):
                    return [1, point]
            after.append(frozenset(rows))
        if self.is_too_large(after):
            return [-6]
        self.tables[t] = (w, k, after)
        return [0] + self.bounds_of([old != new for old, new in zip(before, after)])

    def is_too_large(self, states):
        everything = frozenset().union(*states)
        return len(everything) > 64 or any(len(self.held_for(row, states)) > 64 for row in everything)

    def held_for(self, row, states):
        return self.bounds_of([row in rows for rows in states])

    def bounds_of(self, flags):
        return [point for point, now, before in zip(self.points, flags, [False] + flags) if now != before]


def listed(numbers):
    return [len(numbers)] + numbers


def flat(entries):
    return [len(entries)] + [number for entry in entries for number in entry]


def swap(row, c, number):
    changed = list(row)
    changed[c] = number
    return tuple(changed)


def fits(number, op, x):
    return [number == x, number != x, number < x, number <= x, number > x, number >= x][op]
