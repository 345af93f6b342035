"""Lords and high houses: nearlords.lords, nearlords.high ([16], [17])."""
import itertools

from nearlords.deeds import offers
from nearlords.done import done
from nearlords.high import is_high
from nearlords.lords import lords
from nearlords.ordermakers import chain, flat, ranked
from tests import oracle
from tests.base import Case, pairs_of, quick, samples
from tests.test_deeds import cases


class Lords(Case):

    def test_examples(self):
        self.same(lords(chain(3), (-1, 0, 1)), (-1, -1, -1))
        self.same(lords(chain(3), (2, 0, -1)), (2, 2, -1))
        self.same(lords(ranked((0, 0, 1)), (-1, 0, 1)), (-1, 0, -1))
        self.same(lords(chain(4), (-1, 2, -1, 0)), (-1, 2, -1, -1))
        self.same(lords(chain(4), (1, -1, 0, 2)), (1, -1, -1, -1))

    def test_the_nearest_above_that_is_not_less(self):
        for order, house in cases():
            self.same(lords(order=order, house=house), oracle.lords_of(order, house))

    def test_no_deed_changes_them(self):
        for order, house in cases():
            for deed in offers(order, house):
                self.same(lords(order, done(order, house, deed)), lords(order, house))

    def test_of_flat_orders_and_chains(self):
        for _, house in samples(9, 16):
            self.same(lords(flat(16), house), house)
        with quick(5):
            self.same(lords(chain(16), tuple(range(-1, 15))), (-1,) * 16)
            self.same(lords(chain(16), tuple(range(1, 16)) + (-1,)), tuple(range(1, 16)) + (-1,))
        self.same(lords(chain(1), (-1,)), (-1,))

    def test_refusals(self):
        self.refuses_bad_houses(lambda house: lords(chain(3), house))
        self.refuses_bad_houses(lambda house: lords(flat(3), house))


class High(Case):

    def test_no_place_under_a_lesser_one(self):
        for order, house in cases():
            low = [x for x in range(order.n) if (house[x], x) in pairs_of(order)]
            self.same(is_high(order=order, house=house), not low)

    def test_just_if_it_is_its_own_lords(self):
        for order, house in cases():
            form = lords(order, house)
            self.same(is_high(order, house), form == house)
            self.same(is_high(order, form), True)
            self.same(lords(order, form), form)

    def test_ends(self):
        self.same(is_high(chain(1), (-1,)), True)
        self.same(is_high(chain(2), (-1, 0)), False)
        self.same(is_high(chain(2), (1, -1)), True)
        self.same(is_high(flat(2), (-1, 0)), True)
        for n in range(1, 17):
            self.same(is_high(chain(n), (-1,) * n), True)

    def test_how_many_forms_chains_have(self):
        for n, many in ((1, 1), (2, 2), (3, 6), (4, 24)):
            houses = [house for house in itertools.product(range(-1, n), repeat=n) if all(
                parent == -1 or parent > x for x, parent in enumerate(house))]
            self.assertEqual(len(houses), many)
            self.assertTrue(all(is_high(chain(n), house) for house in houses))

    def test_refusals(self):
        self.refuses_bad_houses(lambda house: is_high(chain(3), house))
        self.refuses_bad_houses(lambda house: is_high(flat(3), house))
