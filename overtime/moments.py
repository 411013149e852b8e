"""Sets of moments, each kept as the list of its bounds."""


def levels(weighed):
    """The sum of the weights of all sets that a moment lies in, each set being told with its weight before it.

    Gives back pairs of a moment and the sum: one for the moment 0, and one wherever the sum isn't what it was before.
    """
    steps = {0: 0}
    for weight, bounds in weighed:
        step = weight
        for bound in bounds:
            steps[bound] = steps.get(bound, 0) + step
            step = -step
    found = []
    level = 0
    for moment in sorted(steps):
        if moment == 0 or steps[moment] != 0:
            level += steps[moment]
            found.append((moment, level))
    return found


def weighing_at_least(least, weighed):
    """The bounds of the moments at which the sum that levels tells is least or more; least is above 0."""
    found = []
    was_in = False
    for moment, level in levels(weighed):
        if was_in != (level >= least):
            found.append(moment)
            was_in = not was_in
    return found


def in_at_least(least, sets):
    """The bounds of the moments that lie in at least so many of the sets."""
    return weighing_at_least(least, [(1, bounds) for bounds in sets])


def in_any(sets):
    return in_at_least(1, sets)


def in_both(left, right):
    return in_at_least(2, [left, right])


def in_just_one(left, right):
    # A bound that both sets have turns both at once, so whether they differ stays as it was.
    return sorted(set(left) ^ set(right))


def in_left_alone(left, right):
    # A moment of both sets weighs 0, one of the right set alone less.
    return weighing_at_least(1, [(1, left), (-1, right)])


def has_moment(bounds, moment):
    return len([bound for bound in bounds if bound <= moment]) % 2 == 1


def pieces(bounds):
    """The set's pieces in order, each a pair of its begin and its end, or -1 if it never ends."""
    ends = bounds + [-1]
    return [(ends[place], ends[place + 1]) for place in range(0, len(bounds), 2)]
