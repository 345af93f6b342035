"""Setting: nearlords.sets ([40.2])."""
import random

from nearlords.boxes import box_of, size
from nearlords.orderjoins import side
from nearlords.ordermakers import chain, flat
from nearlords.sets import set_under
from tests import oracle
from tests.anew import PairCase
from tests.base import BAD_HOUSES, NO_PLACES, all_houses, all_orders, pairs_of, quick, samples, some_house, some_order


class SetUnder(PairCase):

    def test_examples(self):
        order, house = set_under(chain(2), (-1, 0), chain(1), (-1,), 1)
        self.same(order.lesser, ((), (0,), ()))
        self.same(house, (-1, 0, 1))
        self.same_pair(set_under(chain(2), (-1, 0), chain(1), (-1,), -1), {(0, 1)}, (-1, 0, -1))

    def check(self, one, first, two, second, p):
        """Assert what becomes of two houses."""
        found = set_under(one=one, first=first, two=two, second=second, p=p)
        n = one.n
        moved = {-1: p} | {x: x + n for x in range(two.n)}
        self.same_pair(found, pairs_of(one) | {(x + n, y + n) for x, y in pairs_of(two)},
                       first + tuple(moved[q] for q in second))
        self.assertTrue(found[0] == side(one, two))
        lords = oracle.lords_of(one, first) + tuple(moved[q] for q in oracle.lords_of(two, second))
        rows = oracle.rows_of(two, second)
        self.same_rows(found, lords, oracle.rows_of(one, first) + tuple([moved[q] for q in row] for row in rows))
        self.assertEqual(size(box_of(*found)), size(box_of(one, first)) * size(box_of(two, second)))

    def test_by_lords_and_rows(self):
        dice = random.Random(110)
        small = [order for n in (1, 2, 3) for order in all_orders(n)]
        for one in small:
            for two in small:
                for p in range(-1, one.n):
                    self.check(one, dice.choice(all_houses(one.n)), two, dice.choice(all_houses(two.n)), p)

    def test_16_places_together(self):
        dice = random.Random(111)
        with quick(8):
            for n in range(1, 16):
                one, two = some_order(dice, n), some_order(dice, 16 - n)
                self.check(one, some_house(dice, n), two, some_house(dice, 16 - n), dice.randrange(-1, n))

    def test_refusals(self):
        for second, p in (((-1, 0), 0), ((-1, 0), 9), ((0,), 9)):
            self.refuses_bad_houses(lambda first: set_under(chain(3), first, chain(2), second, p))
        for p in (0, 9):
            self.refuses_bad_houses(lambda second: set_under(chain(2), (-1, 0), chain(3), second, p))
            self.refuses_bad_houses(lambda second: set_under(p=p, second=second, two=flat(3), first=(-1,), one=flat(1)))
        for p in NO_PLACES + (-2, 2, 3):
            self.refused("BadPlace", p, set_under, chain(2), (-1, 0), chain(3), (-1, 0, 1), p)
        for p in NO_PLACES + (-2, 9):
            self.refused("BadPlace", p, set_under, chain(9), (-1,) * 9, chain(8), (-1,) * 8, p)
        for m, n in ((1, 16), (16, 1), (8, 9), (16, 16), (10, 10)):
            for p in (-1, 0):
                self.refused("BadSize", m + n, set_under, chain(m), (-1,) * m, flat(n), (-1,) * n, p)
        self.refused("Unlike", 2, set_under, chain(3), (-1, 0), chain(2), (-1, -1, -1), 5)

    def test_first_is_checked_wholly_before_second(self):
        for name, what, bad in BAD_HOUSES:
            for _, _, worse in BAD_HOUSES:
                self.refused(name, what, set_under, chain(3), bad, chain(3), worse, 5)
        for order, house in samples(5, 16):
            self.refused("Round", 0, set_under, order, house, chain(2), (1, 0), 16)
