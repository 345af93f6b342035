"""Papers that two houses are not joined, that ups do not lead there: nearlords.nopapers ([41])."""
from nearlords.climbboxes import climbs_to
from nearlords.joined import joined
from nearlords.nopapers import no_climb, no_climb_right, no_paper, no_right
from nearlords.ordermakers import chain, flat, ranked
from tests import oracle
from tests.base import Case, all_houses, all_orders, quick, samples

C3 = chain(3)
ONE, TWO = (-1, 0, 1), (2, 0, -1)


def some_pairs():
    """Return orders of 4 to 6 and of 16 places with two houses each."""
    found = []
    for n, many in ((4, 40), (5, 40), (6, 40), (16, 30)):
        row = samples(many, n, seed=15)
        found += [(order, house, row[k - 1][1]) for k, (order, house) in enumerate(row)]
        found += [(order, house, oracle.lords_of(order, house)) for order, house in row[::2]]
        found += [(order, oracle.lords_of(order, house), house) for order, house in row[1::2]]
    return found


def road(order, one, x):
    """Return the path of x as far as its lord, the lord included."""
    line = oracle.above(one, x) + [-1]
    return line[:line.index(oracle.lords_of(order, one)[x]) + 1]


class NoPaper(Case):

    def check(self, order, one, two):
        """Assert the paper against two houses, and that no other place has another one."""
        left, right = oracle.lords_of(order, one), oracle.lords_of(order, two)
        apart = [x for x in range(order.n) if left[x] != right[x]]
        if apart:
            x = apart[0]
            self.same(no_paper(order=order, one=one, two=two), (x, left[x], right[x]))
            self.same(no_right(order=order, one=one, two=two, paper=no_paper(order, one, two)), True)
        else:
            self.refused("Joined", 0, no_paper, order, one, two)
        return left, right

    def test_examples(self):
        self.same(no_paper(C3, ONE, TWO), (0, -1, 2))
        self.same(no_right(C3, ONE, TWO, (0, -1, 2)), True)

    def test_all_pairs_of_small_orders(self):
        for n in (1, 2, 3):
            for order in all_orders(n):
                for one in all_houses(n):
                    for two in all_houses(n):
                        self.check(order, one, two)

    def test_all_papers_of_small_orders(self):
        numbers = range(-2, 4)
        papers = [(x, a, b) for x in numbers for a in numbers for b in numbers]
        for order in (C3, flat(3), ranked((0, 0, 1)), all_orders(3)[7]):
            for one in all_houses(3)[::2]:
                for two in all_houses(3)[::3]:
                    left, right = self.check(order, one, two)
                    good = {(x, left[x], right[x]) for x in range(3) if left[x] != right[x]}
                    self.assertEqual({paper for paper in papers if no_right(order, one, two, paper)}, good)

    def test_other_pairs(self):
        with quick(10):
            for order, one, two in some_pairs():
                left, right = self.check(order, one, two)
                for x in range(order.n):
                    good = left[x] != right[x]
                    self.same(no_right(order, one, two, (x, left[x], right[x])), good)
                    self.same(no_right(order, one, two, (x, right[x], left[x])), False)
                    self.same(no_right(order, one, two, (x, left[x], left[x])), False)
                    self.same(no_right(order, one, two, (x, left[x], order.n)), False)

    def test_the_judge_at_things_of_other_forms(self):
        self.no_judge_raises(lambda *args: no_right(C3, *args), (0, 1, 2), [ONE, TWO, (0, -1, 2)])
        for bad in ((0, -1), (0, -1, 2, 2), (0, -1, "2"), ("0", -1, 2), (0, (-1,), 2), (0, -1, 2, ()), ((0, -1, 2),),
                    (3, -1, 2), (-1, -1, 2), (-3, -1, 2), (10 ** 40, -1, 2), (2, -1, 2), ()):
            self.same(no_right(C3, ONE, TWO, bad), False)
        for house in ((-1, 0), (-1, 0, 1, 2), (1, 0, -1), (-1, 0, 3), ()):
            self.same(no_right(C3, house, TWO, (0, -1, 2)), False)
            self.same(no_right(C3, ONE, house, (0, -1, 2)), False)
        self.same(no_right(C3, (-1, 0), (2, 0), (0, -1, 2)), False)

    def test_refusals(self):
        for house in (ONE, TWO, (-1, 0), (0,)):
            self.refuses_bad_houses(lambda one: no_paper(C3, one, house))
        for good in (ONE, TWO):
            self.refuses_bad_houses(lambda two: no_paper(two=two, one=good, order=C3))
        self.refused("Joined", 0, no_paper, C3, ONE, ONE)
        self.refused("Joined", 0, no_paper, C3, ONE, (-1, -1, -1))


class NoClimb(Case):

    def check(self, order, one, other):
        """Assert the paper against climbing from one house to another one."""
        bad = [x for x in range(order.n) if other[x] not in road(order, one, x)]
        paper = (bad[0], other[bad[0]]) if bad else None
        self.same(no_climb(order=order, one=one, other=other), paper)
        self.same(climbs_to(order, one, other), not bad)
        for x in range(order.n):
            self.same(no_climb_right(order=order, one=one, other=other, x=x, p=other[x]), x in bad)
        return bad

    def test_examples(self):
        self.same(no_climb(C3, (-1, -1, 0), (-1, 0, 0)), (1, 0))
        self.assertIsNone(no_climb(C3, ONE, (-1, -1, 0)))
        self.same(no_climb_right(C3, (-1, -1, 0), (-1, 0, 0), 1, 0), True)

    def test_all_pairs_of_small_orders(self):
        for n in (1, 2, 3):
            for order in all_orders(n):
                for one in all_houses(n):
                    reach = oracle.up_reach(order, one)
                    for other in all_houses(n):
                        bad = self.check(order, one, other)
                        self.assertEqual(bad == [], other in reach)

    def test_all_papers_of_small_orders(self):
        numbers = range(-2, 5)
        for order in (C3, flat(3), ranked((0, 0, 1))):
            for one in all_houses(3)[::2]:
                for other in all_houses(3)[::3]:
                    bad = self.check(order, one, other)
                    found = [(x, p) for x in numbers for p in numbers if no_climb_right(order, one, other, x, p)]
                    self.assertEqual(found, [(x, other[x]) for x in bad])

    def test_other_pairs(self):
        joined_ones = 0
        with quick(10):
            for order, one, other in some_pairs():
                bad = self.check(order, one, other)
                joined_ones += bool(bad) and joined(order, one, other)
        self.assertGreater(joined_ones, 20)

    def test_the_judge_at_things_of_other_forms(self):
        good = [(-1, -1, 0), (-1, 0, 0), 1, 0]
        self.no_judge_raises(lambda *args: no_climb_right(C3, *args), (0, 1, 2, 3), good)
        for x in (-1, 3, -2, 16, 10 ** 40, "1", (1,)):
            for p in (0, -1, "0"):
                self.same(no_climb_right(C3, good[0], good[1], x, p), False)
        for house in ((-1, 0), (-1, 0, 1, 2), (1, 0, -1), (-1, 0, 3), ()):
            self.same(no_climb_right(C3, house, good[1], 1, 0), False)
            self.same(no_climb_right(C3, good[0], house, 1, 0), False)
        # A parent from the end of the tuple is not that of a place.
        self.same(no_climb_right(C3, (-1, -1, -1), (-1, -1, 0), 2, 0), True)
        self.same(no_climb_right(C3, (-1, -1, -1), (-1, -1, 0), -1, 0), False)

    def test_refusals(self):
        for house in (ONE, TWO, (-1, 0), (0,)):
            self.refuses_bad_houses(lambda one: no_climb(C3, one, house))
        for good in (ONE, TWO):
            self.refuses_bad_houses(lambda other: no_climb(other=other, one=good, order=C3))
