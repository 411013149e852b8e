"""The refusals that are looked at before a call is carried out: -1 to -5, in this order."""

from overtime.limits import LARGEST_NUMBER, LATEST_BOUND, MOST_BOUNDS

RANGES = {
    "t": (0, 3),
    "u": (0, 3),
    "w": (1, 6),
    "op": (0, 5),
}


def refusal(tables, call):
    """The number of the first refusal that fits, or 0 if none does. tables holds the tables that are made."""
    if is_out_of_range(call):
        return -1
    if has_wrong_tables(tables, call):
        return -2
    if call["name"] == "make":
        return 0
    table = tables[call["t"]]
    if "u" in call and are_unlike(table, tables[call["u"]], call):
        return -3
    if has_wrong_column(table, call):
        return -4
    if has_wrong_list(table, call):
        return -5
    return 0


def is_out_of_range(call):
    for argument in RANGES:
        if argument in call and not is_within(call[argument], RANGES[argument]):
            return True
    if "m" in call and not is_within(call["m"], (0, LATEST_BOUND)):
        return True
    if "k" in call and not is_within(call["k"], (1, call["w"])):
        return True
    return not are_numbers([call[argument] for argument in ("x", "y") if argument in call])


def is_within(number, ends):
    return ends[0] <= number <= ends[1]


def has_wrong_tables(tables, call):
    if call["name"] == "make":
        return call["t"] in tables
    return call["t"] not in tables or call.get("u", call["t"]) not in tables


def are_unlike(table, other, call):
    if call["name"] == "uncovered":
        return other.key_width != 1
    return table.width != other.width or table.key_width != other.key_width


def has_wrong_column(table, call):
    first = table.key_width if call["name"] in ("set", "add") else 0
    for argument in ("c", "d"):
        if argument in call and not is_within(call[argument], (first, table.width - 1)):
            return True
    return False


def has_wrong_list(table, call):
    if "row" in call and (len(call["row"]) != table.width or not are_numbers(call["row"])):
        return True
    if "key" in call and (len(call["key"]) != table.key_width or not are_numbers(call["key"])):
        return True
    return "S" in call and not are_bounds(call["S"])


def are_numbers(numbers):
    return all([abs(number) <= LARGEST_NUMBER for number in numbers])


def are_bounds(numbers):
    if len(numbers) > MOST_BOUNDS:
        return False
    before = -1
    for number in numbers:
        if number <= before or number > LATEST_BOUND:
            return False
        before = number
    return True
