"""Reads the calls out of the one list of whole numbers in which they are handed in."""

# Of each call: its name, the names of its whole numbers, the names of its lists.
FORMS = {
    0: ("make", ("t", "w", "k"), ()),
    1: ("drop", ("t",), ()),
    2: ("insert", ("t",), ("row", "S")),
    3: ("put", ("t",), ("row", "S")),
    4: ("delete", ("t",), ("key", "S")),
    5: ("set", ("t", "c", "x"), ("key", "S")),
    6: ("add", ("t", "c", "x"), ("key", "S")),
    7: ("change", ("t", "c", "op", "x", "d", "y"), ("S",)),
    8: ("remove", ("t", "c", "op", "x"), ("S",)),
    9: ("copy", ("t", "u"), ("S",)),
    10: ("merge", ("t", "u"), ("S",)),
    11: ("take", ("t", "u"), ("S",)),
    12: ("cut", ("t", "m"), ()),
    13: ("rows", ("t",), ()),
    14: ("history", ("t",), ("key",)),
    15: ("when", ("t",), ("row",)),
    16: ("alive", ("t",), ("key",)),
    17: ("bounds", ("t",), ()),
    18: ("count", ("t",), ()),
    19: ("total", ("t", "c"), ()),
    20: ("most", ("t",), ()),
    21: ("differ", ("t", "u"), ()),
    22: ("uncovered", ("t", "c", "u"), ()),
}


def read_calls(numbers):
    """A list of dicts, one for each call: its name, and each argument under the argument's name."""
    found = []
    place = 0
    while place < len(numbers):
        form = FORMS[numbers[place]]
        call = {"name": form[0]}
        place = read_arguments(numbers, place + 1, form, call)
        found.append(call)
    return found


def read_arguments(numbers, start, form, call):
    """Fills in the call's arguments, and gives back the place behind them."""
    place = start
    for argument in form[1]:
        call[argument] = numbers[place]
        place += 1
    for argument in form[2]:
        begin = place + 1
        place = begin + numbers[place]
        call[argument] = numbers[begin:place]
    return place
