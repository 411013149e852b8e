"""Writes calls as the interface wants them, and takes the answers apart again."""

from overtime.tables import answers

LARGE = 999999999999
LATEST = 1000000000
HUGE = 10 ** 18
ALWAYS = [0]


def counted(numbers):
    return [len(numbers)] + list(numbers)


def make(t, w, k):
    return [0, t, w, k]


def drop(t):
    return [1, t]


def insert(t, row, S):
    return [2, t] + counted(row) + counted(S)


def put(t, row, S):
    return [3, t] + counted(row) + counted(S)


def delete(t, key, S):
    return [4, t] + counted(key) + counted(S)


def set_(t, c, x, key, S):
    return [5, t, c, x] + counted(key) + counted(S)


def add(t, c, x, key, S):
    return [6, t, c, x] + counted(key) + counted(S)


def change(t, c, op, x, d, y, S):
    return [7, t, c, op, x, d, y] + counted(S)


def remove(t, c, op, x, S):
    return [8, t, c, op, x] + counted(S)


def copy(t, u, S):
    return [9, t, u] + counted(S)


def merge(t, u, S):
    return [10, t, u] + counted(S)


def take(t, u, S):
    return [11, t, u] + counted(S)


def cut(t, m):
    return [12, t, m]


def rows(t):
    return [13, t]


def history(t, key):
    return [14, t] + counted(key)


def when(t, row):
    return [15, t] + counted(row)


def alive(t, key):
    return [16, t] + counted(key)


def bounds(t):
    return [17, t]


def count(t):
    return [18, t]


def total(t, c):
    return [19, t, c]


def most(t):
    return [20, t]


def differ(t, u):
    return [21, t, u]


def uncovered(t, c, u):
    return [22, t, c, u]


def ask(calls):
    """The answers of the calls, a list for each."""
    numbers = answers([number for call in calls for number in call])
    split = []
    place = 0
    while place < len(numbers):
        behind = place + 1 + numbers[place]
        split.append(numbers[place + 1:behind])
        place = behind
    return split


def last(*calls):
    return ask(calls)[-1]


def held(calls, t, shape, asked_rows):
    """The bounds for which each of the rows holds in table t after the calls, without asking a question.

    take tells at which moments table t had the one row that the other table has for ever with that key, and a row
    that's taken out doesn't touch the others.
    """
    spare = 3 if t != 3 else 2
    asked = [drop(spare), make(spare, shape[0], shape[1])]
    for row in asked_rows:
        asked += [put(spare, row, ALWAYS), take(t, spare, ALWAYS)]
    given = ask(list(calls) + asked)[len(calls) + 2:]
    found = {}
    for row, answer in zip(asked_rows, given[1::2]):
        assert answer[0] == 0, answer
        found[tuple(row)] = answer[1:]
    return found
