"""The calls that ask about tables and change nothing."""

from overtime.limits import MOST_ANSWERED
from overtime.moments import in_any, in_left_alone
from overtime.rows import grouped, parts_of


def uncovered_answer(table, other, call):
    column = call["c"]
    asked = grouped([((row[column],), bounds) for row, bounds in parts_of(table)], 1)
    alive = grouped(parts_of(other), 1)
    missing = [in_left_alone(in_any(sets), in_any(alive.get(key, []))) for key, sets in asked.items()]
    found = in_any(missing)
    return limited([len(found)] + found)


def limited(answer):
    return [-30] if len(answer) > MOST_ANSWERED else answer
