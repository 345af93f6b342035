"""Strikes: nearlords.strikes ([39])."""
from nearlords.joined import joined
from nearlords.ordermakers import chain, flat, ranked
from nearlords.strikes import strike
from tests import oracle
from tests.anew import PairCase, cases, numbered, pairs_anew
from tests.base import NO_PLACES, all_houses, all_orders, quick, samples


class Strike(PairCase):

    def test_examples(self):
        order, house = strike(chain(3), (-1, 0, 1), 1)
        self.assertTrue(order == chain(2))
        self.same(house, (-1, 0))
        self.refused("IsLord", 2, strike, chain(3), (2, 0, -1), 2)
        self.same_pair(strike(flat(2), (-1, -1), 0), set(), (-1,))

    def test_by_lords_and_rows(self):
        struck = 0
        for order, house in cases():
            form, rows = oracle.lords_of(order, house), oracle.rows_of(order, house)
            for z in range(order.n):
                if order.n == 1 or z in form:
                    continue
                struck += 1
                others = [x for x in range(order.n) if x != z]
                anew = numbered(others)
                lifted = [house[z] if house[x] == z else house[x] for x in others]
                found = strike(order=order, house=house, z=z)
                self.same_pair(found, pairs_anew(order, anew), [anew[p] for p in lifted])
                self.same_rows(found, [anew[form[x]] for x in others],
                               [[anew[p] for p in rows[x] if p != z] for x in others])
        self.assertGreater(struck, 500)

    def test_who_is_a_lord_stays(self):
        for order, house in cases():
            for z in set(oracle.lords_of(order, house)) - {-1}:
                self.refused("IsLord", z, strike, order, house, z)

    def test_a_place_without_children_may_always_be_struck(self):
        for order, house in cases() + samples(10, 16):
            if order.n > 1:
                for z in set(range(order.n)) - set(house):
                    self.same(strike(order, house, z)[1], tuple(p - (p > z) for x, p in enumerate(house) if x != z))

    def test_one_class_stays_one(self):
        for order in all_orders(3)[::2]:
            for one in all_houses(3):
                for two in all_houses(3):
                    if joined(order, one, two):
                        for z in set(range(3)) - set(oracle.lords_of(order, one)):
                            under, left = strike(order, one, z)
                            self.assertTrue(joined(under, left, strike(order, two, z)[1]))

    def test_16_places(self):
        with quick(3):
            for order, house in samples(20, 16):
                form = oracle.lords_of(order, house)
                for z in set(range(16)) - set(form):
                    anew = numbered(set(range(16)) - {z})
                    found = strike(order, house, z)
                    self.assertEqual(oracle.lords_of(*found), tuple(anew[form[x]] for x in range(16) if x != z))

    def test_refusals(self):
        for z in (0, 3):
            self.refuses_bad_houses(lambda house: strike(chain(3), house, z))
            self.refuses_bad_houses(lambda house: strike(z=z, house=house, order=ranked((0, 0, 1))))
        for z in NO_PLACES + (-1, 3):
            self.refused("BadPlace", z, strike, chain(3), (-1, 0, 1), z)
            self.refused("BadPlace", z, strike, flat(1), (-1,), z)
        self.refused("BadSize", 1, strike, flat(1), (-1,), 0)
        self.refused("BadPlace", 1, strike, flat(1), (-1,), 1)
        self.refused("IsLord", 0, strike, flat(3), (-1, 0, 1), 0)
        self.refused("IsLord", 1, strike, flat(3), (-1, 0, 1), 1)
