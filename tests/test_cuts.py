"""Cutting: nearlords.cuts ([40.1])."""
from nearlords.cuts import cut, without_bough
from nearlords.ordermakers import chain, flat
from tests import oracle
from tests.anew import PairCase, cases, numbered, pairs_anew
from tests.base import NO_PLACES, quick, samples


def bough(house, x):
    """Return x and all places beneath it, ascending."""
    return [y for y in range(len(house)) if y == x or x in oracle.above(house, y)]


class Cut(PairCase):

    def test_examples(self):
        order, house = cut(chain(3), (-1, 0, 1), 1)
        self.assertTrue(order == chain(2))
        self.same(house, (-1, 0))
        self.same_pair(cut(chain(3), (-1, 0, 1), 2), set(), (-1,))
        self.same_pair(cut(flat(1), (-1,), 0), set(), (-1,))

    def check(self, order, house, x):
        """Assert what the cut gives."""
        form, rows = oracle.lords_of(order, house), oracle.rows_of(order, house)
        places = bough(house, x)
        anew = numbered(places)
        found = cut(order=order, house=house, x=x)
        self.same_pair(found, pairs_anew(order, anew), [-1 if y == x else anew[house[y]] for y in places])
        lords = [anew.get(form[y], -1) for y in places]
        left = [{anew[p] for p in rows[y] if p in places} for y in places]
        self.same_rows(found, lords, [row | {lord} for row, lord in zip(left, lords)])

    def test_by_lords_and_rows(self):
        for order, house in cases():
            for x in range(order.n):
                self.check(order, house, x)

    def test_the_whole_house(self):
        for order, house in samples(10, 6) + [(chain(3), (1, 2, -1)), (flat(4), (1, -1, 1, 2))]:
            if house.count(-1) == 1:
                found = cut(order, house, house.index(-1))
                self.assertTrue(found[0] == order)
                self.same(found[1], house)

    def test_16_places(self):
        with quick(8):
            for order, house in samples(8, 16):
                for x in range(16):
                    self.check(order, house, x)

    def test_refusals(self):
        for x in (0, 3):
            self.refuses_bad_houses(lambda house: cut(chain(3), house, x))
            self.refuses_bad_houses(lambda house: cut(x=x, house=house, order=flat(3)))
        for x in NO_PLACES + (-1, 3):
            self.refused("BadPlace", x, cut, chain(3), (-1, 0, 1), x)


class WithoutBough(PairCase):

    def test_examples(self):
        order, house = without_bough(chain(3), (-1, 0, 1), 1)
        self.assertTrue(order == chain(1))
        self.same(house, (-1,))
        self.same_pair(without_bough(chain(3), (-1, 0, 1), 2), {(0, 1)}, (-1, 0))

    def check(self, order, house, x):
        """Assert what is left without x and those beneath it."""
        form, rows = oracle.lords_of(order, house), oracle.rows_of(order, house)
        places = [y for y in range(order.n) if y not in bough(house, x)]
        if not places:
            self.refused("BadSize", order.n, without_bough, order, house, x)
            return
        anew = numbered(places)
        found = without_bough(order=order, house=house, x=x)
        self.same_pair(found, pairs_anew(order, anew), [anew[house[y]] for y in places])
        self.same_rows(found, [anew[form[y]] for y in places], [[anew[p] for p in rows[y] if p in anew] for y in places])

    def test_by_lords_and_rows(self):
        for order, house in cases():
            for x in range(order.n):
                self.check(order, house, x)

    def test_16_places(self):
        with quick(8):
            for order, house in samples(8, 16):
                for x in range(16):
                    self.check(order, house, x)

    def test_refusals(self):
        for x in (0, 3):
            self.refuses_bad_houses(lambda house: without_bough(chain(3), house, x))
            self.refuses_bad_houses(lambda house: without_bough(x=x, house=house, order=flat(3)))
        for x in NO_PLACES + (-1, 3):
            self.refused("BadPlace", x, without_bough, chain(3), (-1, 0, 1), x)
        self.refused("BadSize", 3, without_bough, chain(3), (-1, 0, 1), 0)
        self.refused("BadSize", 3, without_bough, chain(3), (2, 2, -1), 2)
        self.refused("BadSize", 1, without_bough, flat(1), (-1,), 0)
        self.refused("BadSize", 16, without_bough, flat(16), tuple(range(-1, 15)), 0)
