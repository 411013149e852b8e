"""The calls that change a table's rows for a set of moments.

Each of them tells the parts that table t's rows are made of after it; how such parts are answered is told once, below.
"""

from overtime.limits import LARGEST_NUMBER, MOST_BOUNDS, MOST_ROWS
from overtime.moments import in_any, in_both, in_left_alone
from overtime.rows import clash_moments, differing_moments, grouped, parts_of, rows_from


def insert_parts(table, other, call):
    return parts_of(table) + [(tuple(call["row"]), call["S"])]


def put_parts(table, other, call):
    row = tuple(call["row"])
    return parts_without_key(table, row[:table.key_width], call["S"]) + [(row, call["S"])]


def delete_parts(table, other, call):
    return parts_without_key(table, tuple(call["key"]), call["S"])


def parts_without_key(table, key, bounds):
    return moved_parts(table, bounds, lambda row: None if row[:table.key_width] == key else row)


def set_parts(table, other, call):
    return parts_with_number(table, call, lambda number: call["x"])


def add_parts(table, other, call):
    return parts_with_number(table, call, lambda number: held(number + call["x"]))


def parts_with_number(table, call, renew):
    """The row with the call's key gets, in column c, what renew makes of the number that's there."""
    key = tuple(call["key"])
    column = call["c"]

    def image(row):
        if row[:table.key_width] != key:
            return row
        return replaced(row, column, renew(row[column]))

    return moved_parts(table, call["S"], image)


def held(number):
    return max(-LARGEST_NUMBER, min(LARGEST_NUMBER, number))


def replaced(row, column, number):
    return row[:column] + (number,) + row[column + 1:]


def change_parts(table, other, call):
    return moved_parts(table, call["S"], lambda row: replaced(row, call["d"], call["y"]) if matches(row, call) else row)


def remove_parts(table, other, call):
    return moved_parts(table, call["S"], lambda row: None if matches(row, call) else row)


def matches(row, call):
    number = row[call["c"]]
    op = call["op"]
    x = call["x"]
    if op == 0:
        return number == x
    if op == 1:
        return number != x
    if op == 2:
        return number < x
    if op == 3:
        return number <= x
    if op == 4:
        return number > x
    return number >= x


def moved_parts(table, bounds, image):
    """At the moments of the set each row becomes its image; a row whose image is None is taken out there."""
    parts = []
    for row, moments in table.rows.items():
        parts.append((row, in_left_alone(moments, bounds)))
        new = image(row)
        if new is not None:
            parts.append((new, in_both(moments, bounds)))
    return parts


def copy_parts(table, other, call):
    return moved_parts(table, call["S"], lambda row: None) + parts_within(other, call["S"])


def merge_parts(table, other, call):
    coming = parts_within(other, call["S"])
    covered = {}
    for key, sets in grouped(coming, table.key_width).items():
        covered[key] = in_any(sets)
    staying = []
    for row, moments in table.rows.items():
        staying.append((row, in_left_alone(moments, covered.get(row[:table.key_width], []))))
    return staying + coming


def take_parts(table, other, call):
    parts = []
    for row, moments in table.rows.items():
        shared = in_both(other.rows.get(row, []), call["S"])
        parts.append((row, in_left_alone(moments, shared)))
    return parts


def parts_within(table, bounds):
    return [(row, in_both(moments, bounds)) for row, moments in table.rows.items()]


PARTS = {
    "insert": insert_parts,
    "put": put_parts,
    "delete": delete_parts,
    "set": set_parts,
    "add": add_parts,
    "change": change_parts,
    "remove": remove_parts,
    "copy": copy_parts,
    "merge": merge_parts,
    "take": take_parts,
}


def change_answer(table, other, call):
    """Carries the change out, if it neither clashes nor makes the table too large, and gives back its answer."""
    parts = PARTS[call["name"]](table, other, call)
    clashes = clash_moments(parts, table.key_width)
    if clashes:
        return [1, min(clashes)]
    after = rows_from(parts, table.width)
    if are_too_many(after):
        return [-6]
    moments = differing_moments(table.rows, after)
    table.rows = after
    return [0] + moments


def are_too_many(rows):
    return len(rows) > MOST_ROWS or any([len(bounds) > MOST_BOUNDS for bounds in rows.values()])
