"""The calls that ask about tables and change nothing."""

from overtime.limits import MOST_ANSWERED
from overtime.moments import has_moment, in_any, in_left_alone, levels, pieces
from overtime.rows import differing_moments, grouped, parts_of


def cut_answer(table, other, call):
    found = [row for row in sorted(table.rows) if has_moment(table.rows[row], call["m"])]
    return counted(found)


def rows_answer(table, other, call):
    answer = [len(table.rows)]
    for row in sorted(table.rows):
        answer.extend(row)
        answer.extend(listed(table.rows[row]))
    return answer


def history_answer(table, other, call):
    key = tuple(call["key"])
    entries = []
    for row, bounds in table.rows.items():
        if row[:table.key_width] == key:
            entries.extend([piece + row for piece in pieces(bounds)])
    # Two rows with one key never hold at once, so no two entries have the same begin.
    return counted(sorted(entries))


def when_answer(table, other, call):
    return listed(table.rows.get(tuple(call["row"]), []))


def alive_answer(table, other, call):
    sets = grouped(parts_of(table), table.key_width).get(tuple(call["key"]), [])
    return listed(in_any(sets))


def bounds_answer(table, other, call):
    found = []
    for bounds in table.rows.values():
        found.extend(bounds)
    return listed(sorted(set(found)))


def count_answer(table, other, call):
    return counted(row_counts(table))


def row_counts(table):
    """Pairs of a moment and the number of rows that hold from it on, up to the next pair's moment."""
    return levels([(1, bounds) for bounds in table.rows.values()])


def total_answer(table, other, call):
    return counted(levels([(row[call["c"]], bounds) for row, bounds in table.rows.items()]))


def most_answer(table, other, call):
    greatest = 0
    earliest = 0
    for moment, number in row_counts(table):
        if number > greatest:
            greatest = number
            earliest = moment
    return [greatest, earliest]


def differ_answer(table, other, call):
    return listed(differing_moments(table.rows, other.rows))


def uncovered_answer(table, other, call):
    column = call["c"]
    asked = grouped([((row[column],), bounds) for row, bounds in parts_of(table)], 1)
    alive = grouped(parts_of(other), 1)
    missing = [in_left_alone(in_any(sets), in_any(alive.get(key, []))) for key, sets in asked.items()]
    return listed(in_any(missing))


def listed(numbers):
    """How many numbers there are, then they."""
    return [len(numbers)] + numbers


def counted(entries):
    """How many entries there are, then the numbers of each."""
    answer = [len(entries)]
    for entry in entries:
        answer.extend(entry)
    return answer


ANSWERS = {
    "cut": cut_answer,
    "rows": rows_answer,
    "history": history_answer,
    "when": when_answer,
    "alive": alive_answer,
    "bounds": bounds_answer,
    "count": count_answer,
    "total": total_answer,
    "most": most_answer,
    "differ": differ_answer,
    "uncovered": uncovered_answer,
}


def is_question(call):
    return call["name"] in ANSWERS


def question_answer(table, other, call):
    return limited(ANSWERS[call["name"]](table, other, call))


def limited(answer):
    return [-30] if len(answer) > MOST_ANSWERED else answer
