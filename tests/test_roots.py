"""Point 15, the part on polynomials: steermeans/roots.py."""

import unittest
from fractions import Fraction

from steermeans.roots import fractions_between, plainest, quotient, roots_above, split, trimmed, unlike_factors
from tests.helper import numbers, seeded
from tests.reckoning import Sturm, common, divided, product, slope, trim, value


def linear(root):
    """A polynomial with a root that is a fraction."""
    return [-Fraction(root), Fraction(1)]


def whole(poly):
    """A polynomial in whole numbers, perhaps with a common divisor and the other sign."""
    scale = 6
    for told in poly:
        scale *= Fraction(told).denominator
    return [int(told * -scale) for told in poly]


def joined(polys):
    """The product of polynomials, each root once, and 0 left out."""
    found = [Fraction(1)]
    for numbers_told in polys:
        poly = trim([Fraction(told) for told in numbers_told])
        while len(poly) > 1 and poly[0] == 0:
            poly = poly[1:]
        if len(poly) > 1:
            poly = divided(poly, common(poly, slope(poly)))[0]
            found = product(found, divided(poly, common(found, poly))[0])
    return found


class RootsTest(unittest.TestCase):
    def check_between(self, polys):
        """Just one root above 0 between each two neighbouring fractions, none below the first or above the last."""
        told = numbers(tuple(fractions_between(polys)))
        self.assertEqual(told, sorted(set(told)))
        self.assertGreater(told[0], 0)
        poly = joined(polys)
        if len(poly) < 2:
            self.assertEqual(len(told), 1)
            return told
        self.assertTrue(all(value(poly, share) != 0 for share in told))
        sturm = Sturm(poly)
        for low, high in zip(told, told[1:]):
            self.assertEqual(sturm.between(low, high), 1)
        self.assertEqual(sturm.between(Fraction(0), told[0]), 0)
        bound = 1 + sum(abs(share / poly[-1]) for share in poly)
        self.assertEqual(sturm.between(told[-1], max(bound, told[-1])), 0)
        return told

    def test_none(self):
        for polys in [[], [[0, 0]], [[5]], [[0, 0, 0, 0]], [[1, 1]], [[0, 3]], [[0, 0, 7]], [[1, 2, 1]], [[1, 0, 1]],
                      [[2, 3, 4, 5]], [[-2, -3, -4, -5]], [[0, 0, 0, 4]], [[0, 2, 3, 1]], [[1, -1, 1]]]:
            self.assertEqual(len(self.check_between(polys)), 1)

    def test_fractions_as_roots(self):
        self.assertEqual(len(self.check_between([[-1, 2], [-2, 4], [3, -6], [-2, 3]])), 3)
        self.assertEqual(len(self.check_between([[-1, 10 ** 50], [-1, 10 ** 50 + 1], [-10 ** 50, 1]])), 4)

    def test_alike_roots_of_unlike_polynomials(self):
        for root in (Fraction(1, 2), Fraction(7, 3), Fraction(10 ** 40 + 1, 10 ** 40)):
            one = linear(root)
            for other in ([Fraction(-2), Fraction(0), Fraction(1)], product(linear(3), linear(-2)),
                          product(one, one), product(one, linear(5)), [Fraction(1), Fraction(0), Fraction(1)]):
                cubic = product(one, other)
                for polys in ([one, cubic], [cubic, one], [cubic], [one, other, cubic], [cubic, other]):
                    self.check_between([whole(poly) for poly in polys])

    def test_roots_that_are_no_fractions(self):
        self.assertEqual(len(self.check_between([[-2, 0, 1], [-3, 0, 1], [-4, 0, 2], [1, -3, 1]])), 5)
        self.assertEqual(len(self.check_between([[-2, 0, 0, 1], [-2, 0, 1], [2, 0, -1]])), 3)
        self.assertEqual(len(self.check_between([[1, -3, 0, 1]])), 3)
        self.assertEqual(len(self.check_between([[-1, 6, -11, 7]])), 2)
        self.assertEqual(len(self.check_between([[-1, 6, -10, 5]])), 4)
        self.assertEqual(len(self.check_between([[-3, -3, -3, 2]])), 2)

    def test_a_polynomial_of_degree_three_with_doubled_roots(self):
        for one, two in [(2, 5), (5, 2), (Fraction(1, 3), 4), (3, -1), (-3, 1), (2, 2)]:
            poly = whole(product(product(linear(one), linear(one)), linear(two)))
            many = len({root for root in (one, two) if root > 0})
            self.assertEqual(len(self.check_between([poly])), many + 1)
            self.assertEqual(len(self.check_between([poly, whole(linear(one)), whole(linear(two))])), many + 1)

    def test_roots_very_near_to_each_other(self):
        for figures in (3, 20, 150):
            tiny = Fraction(1, 10 ** figures)
            polys = [linear(Fraction(2, 3)), linear(Fraction(2, 3) + tiny), linear(Fraction(2, 3) - tiny)]
            self.assertEqual(len(self.check_between([whole(poly) for poly in polys])), 4)
            cubic = product(product(polys[0], polys[1]), polys[2])
            cubic[0] += tiny ** 5
            self.check_between([whole(cubic)])
            self.assertEqual(len(self.check_between([whole(cubic), whole(polys[0])])), 5)
            self.assertEqual(len(self.check_between([[-2, 0, 1], whole([-2 - tiny, Fraction(0), Fraction(1)])])), 3)

    def test_any_polynomials(self):
        source = seeded(1)
        for _ in range(150):
            polys = [[source.randint(-4, 4) for _ in range(source.randint(2, 3))] for _ in range(source.randint(1, 4))]
            cubic = source.choice([[source.randint(-4, 4) for _ in range(4)],
                                   whole(product(linear(source.randint(1, 3)), [Fraction(source.randint(-3, 3))
                                                                                for _ in range(3)]))])
            self.check_between(polys + [cubic])

    def test_the_parts(self):
        self.assertEqual(trimmed([0, 6, -9, 0]), (-2, 3))
        self.assertEqual(trimmed([0, 0]), ())
        self.assertEqual(quotient((-2, 1, 1), (-1, 1)), (2, 1))
        self.assertIsNone(quotient((-2, 1, 1), (1, 1)))
        self.assertIsNone(quotient((-1, 1), (-2, 0, 1)))
        self.assertIsNone(quotient((1, 1), (1, 2)))
        self.assertEqual(split((-3, 5, 2)), [(-1, 2)])
        self.assertEqual(sorted(unlike_factors([[-1, 1], [-1, 0, 1], [-1, 1, -1, 1]])), [(-1, 1)])
        self.assertEqual([roots_above((-1, 1)), roots_above((1, -3, 1)), roots_above((-1, -1, 1)),
                          roots_above((-2, 0, 0, 1)), roots_above((1, -3, 0, 1)), roots_above((-6, 11, -6, 2))],
                         [1, 2, 1, 1, 2, 1])
        for low in range(40):
            for high in range(low + 1, 60):
                told = plainest(low, high)
                self.assertTrue(low < told <= high)
                zeros = max(at for at in range(7) if any(k % 2 ** at == 0 for k in range(low + 1, high + 1)))
                self.assertEqual(told % 2 ** zeros, 0)


if __name__ == "__main__":
    unittest.main()
