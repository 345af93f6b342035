"""Shares and polynomials: nearlords.shares ([1], [2])."""
import itertools
from fractions import Fraction

from nearlords.shares import mean, plus, poly_plus, poly_times, share, times
from tests.base import Case

BIG = 10 ** 30


def pair(fraction):
    return (fraction.numerator, fraction.denominator)


SHARES = [pair(Fraction(n, d)) for n in (-7, -2, -1, 0, 1, 3, 6, BIG) for d in (1, 2, 6, 9, BIG + 1)]
POLYS = ((), (1,), (-1,), (0, 1), (1, 1), (2, -1), (-1, -1), (0, 0, 5), (3, 0, -2, BIG), (-3, 0, 2, -BIG))


def worth(poly, z):
    return sum(number * z ** k for k, number in enumerate(poly))


class Shares(Case):

    def test_share_is_reduced_with_a_divisor_above_0(self):
        for n in list(range(-12, 13)) + [BIG, -BIG, 6 * BIG]:
            for d in list(range(-12, 0)) + list(range(1, 13)) + [BIG, -BIG, 4 * BIG]:
                self.same(share(n, d), pair(Fraction(n, d)))

    def test_zero_is_0_1(self):
        for d in (-BIG, -5, -1, 1, 5, BIG):
            self.same(share(0, d), (0, 1))

    def test_share_of_0_is_refused(self):
        for n in (-BIG, -1, 0, 1, BIG):
            self.refused("BadCount", 0, share, n, 0)

    def test_names(self):
        self.same(share(d=-4, n=2), (-1, 2))
        self.same(plus(b=(1, 2), a=(1, 3)), (5, 6))
        self.same(times(b=(1, 2), a=(1, 3)), (1, 6))
        self.same(mean(shares=((1, 2),)), (1, 2))
        self.same(poly_plus(b=(1,), a=(0, 1)), (1, 1))
        self.same(poly_times(b=(1,), a=(0, 1)), (0, 1))

    def test_plus_and_times(self):
        for a, b in itertools.product(SHARES, repeat=2):
            self.same(plus(a, b), pair(Fraction(*a) + Fraction(*b)))
            self.same(times(a, b), pair(Fraction(*a) * Fraction(*b)))

    def test_mean(self):
        for a in SHARES:
            self.same(mean((a,)), a)
            self.same(mean((a, a, a)), a)
        for some in itertools.combinations(SHARES[:9], 3):
            self.same(mean(some), pair(sum((Fraction(*one) for one in some), Fraction(0)) / 3))
        self.same(mean(((1, 2), (1, 2), (0, 1), (1, 3))), (1, 3))
        self.same(mean(((1, 1), (-1, 1))), (0, 1))

    def test_mean_of_none_is_refused(self):
        self.refused("BadCount", 0, mean, ())


class Polynomials(Case):

    def test_examples(self):
        self.same(poly_times((1, 1), (2, 1)), (2, 3, 1))
        self.same(poly_plus((1, 1), (2, -1)), (3,))

    def test_sums_and_products(self):
        for a, b in itertools.product(POLYS, repeat=2):
            total = poly_plus(a, b)
            product = poly_times(a, b)
            for found in (total, product):
                self.assertIs(type(found), tuple)
                self.assertFalse(found and found[-1] == 0)
            for z in (-3, -1, 0, 1, 2, 10 ** 40):
                self.assertEqual(worth(total, z), worth(a, z) + worth(b, z))
                self.assertEqual(worth(product, z), worth(a, z) * worth(b, z))

    def test_the_polynomial_0(self):
        self.same(poly_plus((), ()), ())
        self.same(poly_times((), ()), ())
        self.same(poly_plus((1, 2), (-1, -2)), ())
        self.same(poly_plus((1, 2, 3), (1, -2, -3)), (2,))
        self.same(poly_times((), (1, 2)), ())
        self.same(poly_times((1, 2), ()), ())
        self.same(poly_plus((), (0, 4)), (0, 4))
        self.same(poly_plus((0, 4), ()), (0, 4))
