"""Determinants: nearlords.determinants ([3])."""
import itertools
import random

from nearlords.determinants import determinant
from tests.base import Case, quick


def by_permutations(rows):
    total = 0
    for places in itertools.permutations(range(len(rows))):
        sign = 1
        for j, k in itertools.combinations(places, 2):
            if j > k:
                sign = -sign
        product = sign
        for j, k in enumerate(places):
            product *= rows[j][k]
        total += product
    return total


def times_square(one, two):
    n = len(one)
    return tuple(tuple(sum(one[j][i] * two[i][k] for i in range(n)) for k in range(n)) for j in range(n))


class Determinants(Case):

    def test_of_no_rows_and_of_one(self):
        self.same(determinant(()), 1)
        for number in (-10 ** 30, -1, 0, 1, 10 ** 30):
            self.same(determinant(((number,),)), number)
        self.same(determinant(rows=((2,),)), 2)

    def test_all_of_two_rows(self):
        for a, b, c, d in itertools.product(range(-2, 3), repeat=4):
            self.same(determinant(((a, b), (c, d))), a * d - b * c)

    def test_small_ones_with_many_zeros(self):
        dice = random.Random(3)
        for size in (3, 4, 5):
            for _ in range(150):
                rows = tuple(tuple(dice.choice((0, 0, 0, 1, -1, 2, 7)) for _ in range(size)) for _ in range(size))
                self.same(determinant(rows), by_permutations(rows))

    def test_every_permutation_has_its_sign(self):
        for places in itertools.permutations(range(5)):
            rows = tuple(tuple(int(k == place) for k in range(5)) for place in places)
            self.same(determinant(rows), by_permutations(rows))

    def test_great_numbers_stay_exact(self):
        dice = random.Random(4)
        for _ in range(20):
            rows = tuple(tuple(dice.randrange(-10 ** 40, 10 ** 40) for _ in range(4)) for _ in range(4))
            self.same(determinant(rows), by_permutations(rows))

    def test_16_rows(self):
        dice = random.Random(5)
        with quick(10):
            for _ in range(10):
                lower = tuple(tuple(dice.randrange(-9, 10) if k < j else int(k == j) for k in range(16))
                              for j in range(16))
                upper = tuple(tuple(dice.randrange(-9, 10) if k > j else (j - 20) * int(k == j) for k in range(16))
                              for j in range(16))
                expected = 1
                for j in range(16):
                    expected *= j - 20
                self.same(determinant(times_square(lower, upper)), expected)
        same = tuple(tuple(range(16)) for _ in range(16))
        self.same(determinant(same), 0)
        self.same(determinant(tuple(tuple(10 ** 30 * int(k == j) for k in range(16)) for j in range(16))), 10 ** 480)

    def test_more_than_16_rows_are_refused(self):
        for many in (17, 18, 30):
            self.refused("BadSize", many, determinant, ((0,) * many,) * many)

    def test_bad_rows_are_refused(self):
        self.refused("BadRow", 0, determinant, ((),))
        self.refused("BadRow", 0, determinant, ((1, 2),))
        self.refused("BadRow", 1, determinant, ((1, 2), (1,)))
        self.refused("BadRow", 1, determinant, ((1, 2), (1, 2, 3)))
        self.refused("BadRow", 1, determinant, ((1, 2, 3), (1,), (1, 2)))
        self.refused("BadRow", 15, determinant, ((0,) * 16,) * 15 + ((0,) * 15,))

    def test_the_number_of_rows_is_checked_first(self):
        self.refused("BadSize", 17, determinant, ((1,),) * 17)
