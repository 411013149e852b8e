"""Sets of moments, each kept as the list of its bounds."""


def in_at_least(least, sets):
    """The bounds of the moments that lie in at least so many of the sets."""
    steps = {}
    for bounds in sets:
        step = 1
        for bound in bounds:
            steps[bound] = steps.get(bound, 0) + step
            step = -step
    found = []
    depth = 0
    for moment in sorted(steps):
        was_in = depth >= least
        depth += steps[moment]
        if was_in != (depth >= least):
            found.append(moment)
    return found


def in_any(sets):
    return in_at_least(1, sets)


def in_both(left, right):
    return in_at_least(2, [left, right])


def in_just_one(left, right):
    # A bound that both sets have turns both at once, so whether they differ stays as it was.
    return sorted(set(left) ^ set(right))


def in_left_alone(left, right):
    # The bounds 0 alone tell all moments: what is in just one of them and the right set is the right set's rest.
    return in_both(left, in_just_one(right, [0]))
