"""Counts in a box: nearlords.childcounts, nearlords.leafcounts ([31])."""
import itertools
import math
from fractions import Fraction

from nearlords.boxes import box_of, size
from nearlords.childcounts import apart_mean, child_counts
from nearlords.leafcounts import barren, leaf_counts
from nearlords.narrow import narrowed
from nearlords.ordermakers import chain, flat
from tests import oracle
from tests.base import NO_PLACES, Case, quick, samples
from tests.boxcases import big_boxes, narrow_boxes, small_boxes

B = box_of(chain(3), (-1, 0, 1))


def counted(numbers):
    """Return the polynomial of how often each number stands among some."""
    return tuple(numbers.count(k) for k in range(max(numbers) + 1))


def leaves(house):
    """Return how many places of a house have no children."""
    return sum(x not in house for x in range(len(house)))


class ApartMean(Case):

    def test_examples(self):
        self.same(apart_mean(B), (7, 6))
        self.same(apart_mean(box_of(flat(4), (-1, 0, 0, 1))), (0, 1))
        self.same(apart_mean(box_of(chain(1), (-1,))), (0, 1))

    def test_by_all_pairs(self):
        for box in small_boxes()[::3]:
            houses = oracle.houses_in(box)
            if len(houses) <= 24:
                total = sum(sum(p != q for p, q in zip(one, two)) for one in houses for two in houses)
                self.same(apart_mean(box=box), oracle.pair(Fraction(total, len(houses) ** 2)))

    def test_16_places(self):
        with quick(5):
            for box in big_boxes():
                self.same(apart_mean(box), oracle.pair(sum(1 - Fraction(1, len(row)) for row in box.rows)))


class ChildCounts(Case):

    def test_examples(self):
        self.same(child_counts(B, -1), (0, 2, 3, 1))
        self.same(child_counts(B, 0), (2, 3, 1))
        self.same(child_counts(B, 2), (6,))
        self.same(child_counts(narrowed(B, 2, (1,)), 1), (0, 2))

    def test_by_listing(self):
        for box in small_boxes():
            houses = oracle.houses_in(box)
            for y in range(-1, box.order.n):
                self.same(child_counts(box=box, y=y), counted([house.count(y) for house in houses]))

    def test_16_places(self):
        with quick(5):
            for box in big_boxes():
                for y in range(-1, 16):
                    counts = child_counts(box, y)
                    self.assertEqual(sum(counts), size(box))
                    self.assertNotEqual(counts[-1], 0)
                    mean = sum(Fraction(1, len(row)) for row in box.rows if y in row)
                    self.assertEqual(Fraction(sum(k * many for k, many in enumerate(counts)), size(box)), mean)
            counts = child_counts(big_boxes()[0], -1)
        # So many permutations of 16 have so many cycles.
        self.assertEqual((counts[0], counts[1], counts[15], counts[16]), (0, math.factorial(15), 120, 1))

    def test_refusals(self):
        for y in NO_PLACES + (3,):
            self.refused("BadPlace", y, child_counts, B, y)
        self.refused("BadPlace", 1, child_counts, box_of(chain(1), (-1,)), 1)


class Barren(Case):

    def test_examples(self):
        self.same(barren(B, (0,)), 2)
        self.same(barren(B, ()), 6)
        self.same(barren(B, (0, 1)), 1)
        self.same(barren(B, (2,)), 6)
        self.same(barren(narrowed(B, 2, (1,)), (1,)), 0)

    def test_by_listing(self):
        for box in small_boxes()[::4]:
            houses = oracle.houses_in(box)
            for many in range(box.order.n + 1):
                for places in itertools.combinations(range(box.order.n), many):
                    free = [house for house in houses if not set(places) & set(house)]
                    self.same(barren(box=box, places=places), len(free))

    def test_16_places(self):
        path = big_boxes()[0]
        with quick(5):
            self.same(barren(path, ()), math.factorial(16))
            self.same(barren(path, tuple(range(16))), 1)
            self.same(barren(path, (0,)), math.factorial(15))
            self.same(barren(path, (15,)), math.factorial(16))

    def test_refusals(self):
        for p in NO_PLACES + (-1, 3):
            for places in ((p,), (p, 0), (0, p), (0, 1, p), (0, 1, 2, p), (1, p, p)):
                self.refused("BadPlace", p, barren, B, places)
        for places, p in (((0, 0), 0), ((1, 0), 0), ((2, 1, 0), 1), ((0, 2, 1), 1), ((1, 1, 9), 1), ((1, 0, 1), 0)):
            self.refused("BadPlace", p, barren, B, places)


class LeafCounts(Case):

    def test_examples(self):
        self.same(leaf_counts(B), (0, 1, 4, 1))
        self.same(leaf_counts(box_of(chain(1), (-1,))), (0, 1))
        self.same(leaf_counts(box_of(flat(3), (-1, 0, 1))), (0, 1))

    def test_by_listing(self):
        for box in small_boxes():
            self.same(leaf_counts(box=box), counted([leaves(house) for house in oracle.houses_in(box)]))
        for n in (7, 8, 9, 10):
            for order, house in samples(12, n):
                box = box_of(order, house)
                if size(box) <= 5000:
                    self.same(leaf_counts(box), counted([leaves(one) for one in oracle.houses_in(box)]))

    def test_10_places_and_more(self):
        with quick(10):
            counts = leaf_counts(box_of(chain(10), (-1,) * 10))
        self.assertEqual(sum(counts), math.factorial(10))
        # Eulerian numbers: so many permutations of 10 have so many ascents.
        self.same(counts, (0, 1, 1013, 47840, 455192, 1310354, 1310354, 455192, 47840, 1013, 1))
        for n in range(11, 17):
            self.refused("TooMany", n, leaf_counts, box_of(chain(n), (-1,) * n))
            self.refused("TooMany", n, leaf_counts, box_of(flat(n), (-1,) * n))

    def test_highest_coefficient_is_not_0(self):
        for box in narrow_boxes():
            self.assertNotEqual(leaf_counts(box)[-1], 0)
