import unittest

from overtime.moments import in_any, in_at_least, in_both, in_just_one, in_left_alone

SAMPLES = [[], [0], [0, 4], [3, 7, 9], [3, 7], [7, 9], [9], [0, 3, 4, 7], [1, 2, 5, 8, 11], [11], [0, 11]]
MOMENTS = range(14)


def moments_in(bounds):
    return [moment for moment in MOMENTS if len([bound for bound in bounds if bound <= moment]) % 2 == 1]


class TwoSets(unittest.TestCase):
    def check(self, combine, rule):
        for left in SAMPLES:
            for right in SAMPLES:
                found = combine(left, right)
                wanted = [m for m in MOMENTS if rule(m in moments_in(left), m in moments_in(right))]
                self.assertEqual(moments_in(found), wanted, (left, right))
                self.assertEqual(found, sorted(set(found)), (left, right))

    def test_any(self):
        self.check(lambda left, right: in_any([left, right]), lambda a, b: a or b)

    def test_both(self):
        self.check(in_both, lambda a, b: a and b)

    def test_just_one(self):
        self.check(in_just_one, lambda a, b: a != b)

    def test_left_alone(self):
        self.check(in_left_alone, lambda a, b: a and not b)


class ManySets(unittest.TestCase):
    def test_no_set(self):
        self.assertEqual(in_any([]), [])

    def test_pieces_that_touch_become_one(self):
        self.assertEqual(in_any([[3, 5], [5, 9], [9]]), [3])

    def test_at_least_two(self):
        self.assertEqual(in_at_least(2, [[0, 5], [4, 8], [7], [8, 9]]), [4, 5, 7, 9])
