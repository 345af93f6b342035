"""Papers that a place never comes to stand there: nearlords.neverpapers ([42])."""
import itertools

from nearlords.neverpapers import never_paper, never_right
from nearlords.ordermakers import chain, flat, ranked
from tests import oracle
from tests.base import NO_PLACES, Case, all_houses, all_orders, pairs_of, quick, samples

C4 = chain(4)
HOUSE = (-1, 2, -1, 0)


def row_from(order, house, x, y):
    """Return y, its lord, the lord of that .. up to the first that is not less than x."""
    lords, pairs = oracle.lords_of(order, house), pairs_of(order)
    row = [y]
    while (row[-1], x) in pairs:
        row.append(lords[row[-1]])
    return tuple(row)


def spoilt(row, n):
    """Return a row with one part changed, left out, put in, and cut and drawn out."""
    found = [row[:k] + (p,) + row[k + 1:] for k in range(len(row)) for p in range(-2, n + 1) if p != row[k]]
    found += [row[:k] + row[k + 1:] for k in range(len(row))]
    found += [row[:k] + (p,) + row[k:] for k in range(len(row) + 1) for p in range(-2, n + 1)]
    return [other for other in found if other != row] + [row + row, row[::-1] + (n,), (row,), ()]


class Never(Case):

    def check(self, order, house, x, y):
        """Assert the paper, or that there is none; return whether there is one."""
        row = row_from(order, house, x, y)
        never = y not in oracle.admitted_to(order, house, x)
        self.assertEqual(never, row[-1] != oracle.lords_of(order, house)[x])
        self.same(never_paper(order=order, house=house, x=x, y=y), row if never else None)
        self.same(never_right(order=order, house=house, x=x, y=y, row=row), never)
        return never

    def test_examples(self):
        self.assertIsNone(never_paper(C4, HOUSE, 3, 1))
        self.same(never_paper(C4, HOUSE, 2, 1), (1, 2))
        self.same(never_paper(C4, HOUSE, 1, -1), (-1,))
        self.assertIsNone(never_paper(C4, HOUSE, 0, -1))
        self.same(never_paper(C4, HOUSE, 0, 0), (0,))
        self.same(never_paper(flat(1), (-1,), 0, 0), (0,))

    def test_all_places_of_small_orders(self):
        for n in (1, 2, 3):
            for order in all_orders(n):
                for house in all_houses(n):
                    others = oracle.class_of(order, house)
                    for x in range(n):
                        for y in range(-1, n):
                            never = self.check(order, house, x, y)
                            self.assertEqual(never, all(other[x] != y for other in others))

    def test_all_rows_of_small_orders(self):
        rows = [row for many in range(5) for row in itertools.product(range(-1, 3), repeat=many)]
        for order in (chain(3), ranked((0, 0, 1)), flat(3)):
            for house in all_houses(3)[::3]:
                for x in range(3):
                    for y in range(-1, 3):
                        paper = never_paper(order, house, x, y)
                        right = [row for row in rows if never_right(order, house, x, y, row)]
                        self.assertEqual(right, [] if paper is None else [paper])

    def test_other_places(self):
        long_ones = 0
        with quick(20):
            for n, many in ((4, 30), (5, 30), (6, 30), (16, 8)):
                for order, house in samples(many, n, seed=16):
                    for x in range(n):
                        for y in range(-1, n):
                            if self.check(order, house, x, y):
                                row = never_paper(order, house, x, y)
                                long_ones += len(row) > 2
                                if n < 16:
                                    self.none_right(order, house, x, y, spoilt(row, n))
        self.assertGreater(long_ones, 20)

    def none_right(self, order, house, x, y, rows):
        """Assert that none of some rows is a right paper."""
        self.assertFalse([row for row in rows if never_right(order, house, x, y, row)])

    def test_a_paper_for_other_places(self):
        for y in (0, 2, 3, -1):
            self.same(never_right(C4, HOUSE, 2, y, (1, 2)), False)
        for x in (0, 1, 3):
            self.same(never_right(C4, HOUSE, x, 1, (1, 2)), False)
        self.same(never_right(C4, HOUSE, 2, 1, (1, 2)), True)

    def test_the_judge_at_things_of_other_forms(self):
        self.no_judge_raises(lambda *args: never_right(C4, *args), (0, 1, 2, 3), [HOUSE, 2, 1, (1, 2)])
        self.no_judge_raises(lambda *args: never_right(C4, *args), (0, 1, 2, 3), [HOUSE, 1, -1, (-1,)])
        for x in (-1, -2, 4, 16, 10 ** 40, "2", (2,)):
            for row in ((1, 2), (1,), (), (1, 2, -1), "12"):
                self.same(never_right(C4, HOUSE, x, 1, row), False)
        for y in (-2, 4, 16, 10 ** 40, "1", (1,), -10 ** 40):
            self.same(never_right(C4, HOUSE, 2, y, (y, 2)), False)
            self.same(never_right(C4, HOUSE, 2, y, (y,)), False)
        # A paper for the last place is none for what stands before the first one.
        self.same(never_right(C4, HOUSE, 3, 3, (3,)), True)
        self.same(never_right(C4, HOUSE, -1, 3, (3,)), False)
        for row in ((1, "2"), ("1", 2), (1, (2,)), (1, 2, ()), ((1, 2),), (1, 2) * 5000):
            self.same(never_right(C4, HOUSE, 2, 1, row), False)
        for house in ((-1, 2, -1), (-1, 2, -1, 0, -1), (1, 0, -1, 0), (-1, 2, -1, 4), ()):
            self.same(never_right(C4, house, 2, 1, (1, 2)), False)

    def test_refusals(self):
        for x, y in ((0, 0), (3, 5), (-1, -1)):
            self.refuses_bad_houses(lambda house: never_paper(chain(3), house, x, y))
            self.refuses_bad_houses(lambda house: never_paper(y=y, x=x, house=house, order=flat(3)))
        for x in NO_PLACES + (-1, 4):
            for y in (0, -1, 4, -2):
                self.refused("BadPlace", x, never_paper, C4, HOUSE, x, y)
        for y in NO_PLACES + (-2, 4):
            for x in (0, 3):
                self.refused("BadPlace", y, never_paper, C4, HOUSE, x, y)
