"""New names: nearlords.renames ([40])."""
import itertools
import random

from nearlords.ordermakers import chain, flat
from nearlords.renames import renamed
from tests import oracle
from tests.anew import PairCase, cases
from tests.base import NO_PLACES, pairs_of, quick, samples


class Renamed(PairCase):

    def test_examples(self):
        order, house = renamed(chain(3), (-1, 0, 1), (2, 0, 1))
        self.same(order.lesser, ((2,), (0, 2), ()))
        self.same(house, (2, 0, -1))
        self.same_pair(renamed(flat(1), (-1,), (0,)), set(), (-1,))

    def check(self, order, house, names):
        """Assert that all goes along with the new names."""
        form, rows = oracle.lords_of(order, house), oracle.rows_of(order, house)
        found = renamed(order=order, house=house, places=names)
        new = {-1: -1} | dict(enumerate(names))
        old = [names.index(name) for name in range(order.n)]
        self.same_pair(found, {(names[x], names[y]) for x, y in pairs_of(order)}, [new[house[x]] for x in old])
        self.same_rows(found, [new[form[x]] for x in old], [[new[p] for p in rows[x]] for x in old])
        back = renamed(*found, tuple(old))
        self.assertTrue(back[0] == order)
        self.same(back[1], house)

    def test_by_lords_and_rows(self):
        dice = random.Random(100)
        for order, house in cases():
            every = list(itertools.permutations(range(order.n))) if order.n <= 3 else []
            for names in every or [tuple(dice.sample(range(order.n), order.n)) for _ in range(4)]:
                self.check(order, house, names)

    def test_16_places(self):
        dice = random.Random(101)
        with quick(5):
            for order, house in samples(20, 16):
                self.check(order, house, tuple(dice.sample(range(16), 16)))
                found = renamed(order, house, tuple(range(16)))
                self.assertTrue(found[0] == order)
                self.same(found[1], house)

    def test_refusals(self):
        for names in ((0, 1, 2), (0, 0, 0), (), (5, 5)):
            self.refuses_bad_houses(lambda house: renamed(chain(3), house, names))
            self.refuses_bad_houses(lambda house: renamed(places=names, house=house, order=flat(3)))
        for names in ((), (0,), (0, 1), (0, 1, 2, 3), (7, 7), (0, 0, 0, 0), NO_PLACES, (0,) * 17):
            self.refused("BadSize", len(names), renamed, chain(3), (-1, 0, 1), names)
        for index, names in (
                (1, (0, 0, 1)), (2, (0, 1, 0)), (2, (0, 1, 1)), (1, (2, 2, 2)), (0, (3, 1, 0)), (1, (0, 3, 1)),
                (2, (1, 0, 3)), (0, (-1, 0, 1)), (2, (2, 1, -1)), (1, (2, 10 ** 40, 2)), (1, (1, -10 ** 40, 5)),
                (1, (1, 1, 3)), (1, (1, 3, 1)), (0, (3, 3, 3))):
            self.refused("BadPlace", index, renamed, chain(3), (-1, 0, 1), names)
        self.refused("BadPlace", 15, renamed, chain(16), (-1,) * 16, (*range(15), 14))
        self.refused("BadPlace", 0, renamed, flat(1), (-1,), (1,))
