"""Rows of an order: nearlords.orderlooks ([7])."""
import itertools
import math
import random

from nearlords.orderjoins import kept, side, stacked, turned
from nearlords.orderlooks import greatest_ones, is_chain, least_ones, row_of, rows_count
from nearlords.ordermakers import chain, flat, ranked
from nearlords.orders import made_order
from tests.base import Case, all_orders, pairs_of, quick, samples


def small_orders():
    """Return orders of 1 to 6 places."""
    return ([order for n in (1, 2, 3, 4) for order in all_orders(n)]
            + [order for n in (5, 6) for order, _ in samples(40, n)])


def right_rows(order):
    """Return all rows of all places that keep to the order, ascending."""
    pairs = pairs_of(order)
    return [row for row in itertools.permutations(range(order.n))
            if all(row.index(x) < row.index(y) for x, y in pairs)]


class Looks(Case):

    def test_example(self):
        order = made_order(3, ((2, 0),))
        self.same(row_of(order), (1, 2, 0))
        self.same(rows_count(order), 3)

    def test_ends(self):
        for order in small_orders() + [order for order, _ in samples(10, 16)]:
            pairs = pairs_of(order)
            self.same(least_ones(order), tuple(y for y in range(order.n) if not any(b == y for a, b in pairs)))
            self.same(greatest_ones(order), tuple(x for x in range(order.n) if not any(a == x for a, b in pairs)))
        self.same(least_ones(order=ranked((1, 0, 0, 2))), (1, 2))
        self.same(greatest_ones(order=ranked((1, 0, 2, 2))), (2, 3))

    def test_is_chain(self):
        for order in small_orders():
            pairs = pairs_of(order)
            every = all((x, y) in pairs or (y, x) in pairs for x in range(order.n) for y in range(x))
            self.same(is_chain(order), every)
        for n in range(1, 17):
            self.same(is_chain(order=chain(n)), True)
            self.same(is_chain(turned(chain(n))), True)
            self.same(is_chain(flat(n)), n == 1)
        self.same(is_chain(ranked(tuple(range(15)) + (14,))), False)
        self.same(is_chain(ranked((5, 3, 9, -4))), True)

    def test_rows_of_small_orders(self):
        for order in small_orders():
            rows = right_rows(order)
            self.same(rows_count(order), len(rows))
            # Taking the least-numbered place always first is taking the least row.
            self.same(row_of(order), min(rows))

    def test_row_of_16_places(self):
        for order, _ in samples(20, 16):
            row = []
            while len(row) < 16:
                row.append(next(x for x in range(16) if x not in row and set(order.lesser[x]) <= set(row)))
            self.same(row_of(order=order), tuple(row))
        self.same(row_of(turned(chain(16))), tuple(range(15, -1, -1)))
        self.same(row_of(flat(16)), tuple(range(16)))


class Counts(Case):

    def test_16_places_quickly(self):
        with quick(20):
            self.same(rows_count(order=flat(16)), math.factorial(16))
            self.same(rows_count(chain(16)), 1)
            self.same(rows_count(ranked((0,) + (1,) * 15)), math.factorial(15))
            self.same(rows_count(ranked((1,) + (0,) * 15)), math.factorial(15))
            self.same(rows_count(ranked((0,) * 8 + (1,) * 8)), math.factorial(8) ** 2)
            self.same(rows_count(ranked((3, 1, 2, 0) * 4)), math.factorial(4) ** 4)
            self.same(rows_count(made_order(16, ((3, 9),))), math.factorial(16) // 2)
            pairs = tuple((x, x + 8) for x in range(8))
            self.same(rows_count(made_order(16, pairs)), math.factorial(16) // 2 ** 8)

    def test_fence_of_16_places(self):
        # The rows of a fence are counted by the alternating permutations.
        pairs = tuple((x, y) for x in range(0, 16, 2) for y in (x - 1, x + 1) if 0 <= y < 16)
        row = [1]
        for _ in range(16):
            row = [sum(row[:k]) for k in range(len(row) + 1)][::-1]
        with quick(10):
            self.same(rows_count(made_order(16, pairs)), max(row))

    def test_side_and_stacked(self):
        orders = [order for n in (2, 3, 5) for order, _ in samples(4, n)]
        for one, two in itertools.product(orders, repeat=2):
            both = rows_count(one) * rows_count(two)
            self.same(rows_count(side(one, two)), both * math.comb(one.n + two.n, one.n))
            self.same(rows_count(stacked(one, two)), both)
        eights = [order for order, _ in samples(6, 8)]
        with quick(20):
            for one, two in itertools.combinations(eights, 2):
                both = rows_count(one) * rows_count(two)
                self.same(rows_count(side(one, two)), both * math.comb(16, 8))
                self.same(rows_count(stacked(one, two)), both)

    def test_last_places_of_16(self):
        # Each row ends with a greatest place, so the counts without each add up.
        with quick(60):
            for order, _ in samples(12, 16):
                without = [kept(order, tuple(y for y in range(16) if y != x)) for x in greatest_ones(order)]
                self.same(rows_count(order), sum(rows_count(less) for less in without))
                self.same(rows_count(turned(order)), rows_count(order))

    def test_new_names_do_not_matter(self):
        dice = random.Random(8)
        for order, _ in samples(10, 12):
            names = list(range(12))
            dice.shuffle(names)
            other = made_order(12, tuple((names[x], names[y]) for x, y in pairs_of(order)))
            self.same(rows_count(other), rows_count(order))
