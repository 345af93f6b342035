"""Changed orders: nearlords.orderjoins ([6])."""
import itertools

from nearlords.orderjoins import is_within, kept, met, side, stacked, turned
from nearlords.ordermakers import chain, flat, ranked
from nearlords.orders import Order, made_order
from tests.base import NO_PLACES, Case, all_orders, pairs_of, samples

SMALL = [order for n in (1, 2, 3) for order in all_orders(n)]


class Joins(Case):

    def tells(self, order, n, pairs):
        """Assert that an order of n places tells just these pairs."""
        self.assertIs(type(order), Order)
        self.same(order.n, n)
        self.same(order.lesser, made_order(n, tuple(pairs)).lesser)

    def test_turned(self):
        for order in SMALL + all_orders(4) + [order for order, _ in samples(5, 16)]:
            self.tells(turned(order=order), order.n, {(y, x) for x, y in pairs_of(order)})
            self.assertTrue(turned(turned(order)) == order)

    def test_kept(self):
        for order in SMALL + [order for order, _ in samples(10, 6)] + [chain(16), flat(16)]:
            for many in range(1, min(order.n, 6) + 1):
                for places in itertools.islice(itertools.combinations(range(order.n), many), 40):
                    anew = {(places.index(x), places.index(y))
                            for x, y in pairs_of(order) if x in places and y in places}
                    self.tells(kept(order, places), many, anew)
            self.assertTrue(kept(order=order, places=tuple(range(order.n))) == order)

    def test_kept_refuses(self):
        self.refused("BadSize", 0, kept, chain(3), ())
        for bad in NO_PLACES + (-1, 3):
            self.refused("BadPlace", bad, kept, chain(3), (bad,))
            self.refused("BadPlace", bad, kept, chain(3), (0, 1, bad, 0))
        self.refused("BadPlace", 1, kept, chain(3), (1, 1))
        self.refused("BadPlace", 0, kept, chain(3), (0, 1, 0))
        self.refused("BadPlace", 0, kept, chain(3), (2, 0, 1, 9))
        self.refused("BadPlace", 9, kept, chain(3), (0, 9, 1, 1))

    def test_side_and_stacked(self):
        for one, two in itertools.product(SMALL, repeat=2):
            n = one.n + two.n
            both = pairs_of(one) | {(x + one.n, y + one.n) for x, y in pairs_of(two)}
            across = {(x, y + one.n) for x in range(one.n) for y in range(two.n)}
            self.tells(side(one, two), n, both)
            self.tells(stacked(one, two), n, both | across)
        self.assertTrue(side(one=flat(7), two=flat(9)) == flat(16))
        self.assertTrue(stacked(one=chain(7), two=chain(9)) == chain(16))

    def test_too_many_places(self):
        for one, two, n in ((1, 16, 17), (16, 1, 17), (16, 16, 32), (9, 8, 17)):
            self.refused("BadSize", n, side, chain(one), chain(two))
            self.refused("BadSize", n, stacked, chain(one), chain(two))

    def test_met_and_is_within(self):
        for n in (1, 2, 3):
            for one, two in itertools.product(all_orders(n), repeat=2):
                self.tells(met(one, two), n, pairs_of(one) & pairs_of(two))
                self.same(is_within(one, two), pairs_of(one) <= pairs_of(two))
        for one, _ in samples(5, 16):
            for two, _ in samples(5, 16, seed=6):
                self.tells(met(one=one, two=two), 16, pairs_of(one) & pairs_of(two))
                self.same(is_within(one=one, two=two), pairs_of(one) <= pairs_of(two))
        self.same(is_within(ranked((0, 0, 1)), chain(3)), True)
        self.same(is_within(chain(3), ranked((0, 0, 1))), False)

    def test_unlike(self):
        for one, two in itertools.permutations((1, 2, 7, 16), 2):
            self.refused("Unlike", two, met, chain(one), flat(two))
            self.refused("Unlike", two, is_within, flat(one), chain(two))

    def test_nothing_handed_in_is_changed(self):
        one, two = chain(3), ranked((0, 0, 1))
        for join in (side, stacked, met, is_within):
            join(one, two)
        turned(one)
        kept(one, (0, 2))
        self.tells(one, 3, {(0, 1), (0, 2), (1, 2)})
        self.tells(two, 3, {(0, 2), (1, 2)})
