"""Mixing two houses: nearlords.mixes ([22])."""
import itertools
import random

from nearlords.admitted import in_class
from nearlords.boxranks import nth
from nearlords.boxes import box_of, size
from nearlords.mixes import mixed
from nearlords.ordermakers import chain, flat
from tests import oracle
from tests.base import BAD_HOUSES, NO_PLACES, Case, all_houses, all_orders, quick
from tests.boxcases import big_boxes


class Mixed(Case):

    def test_each_part_of_the_places(self):
        parts = [part for many in range(4) for part in itertools.combinations(range(3), many)]
        for order in all_orders(3):
            for one, others in oracle.classes(order, all_houses(3)).items():
                for two in others:
                    for part in parts:
                        house = mixed(order=order, one=one, two=two, places=part)
                        self.same(house, tuple((two if x in part else one)[x] for x in range(3)))
                        self.assertIn(house, others)

    def test_nothing_and_all(self):
        one, two = (-1, 0, 1), (-1, -1, 0)
        self.same(mixed(chain(3), one, two, ()), one)
        self.same(mixed(chain(3), one, two, (0, 1, 2)), two)
        self.same(mixed(chain(3), one, two, (2,)), (-1, 0, 0))
        self.same(mixed(chain(3), one, one, (1,)), one)
        self.same(mixed(chain(1), (-1,), (-1,), (0,)), (-1,))

    def test_16_places(self):
        dice = random.Random(5)
        with quick(10):
            for box in big_boxes():
                one, two = nth(box, dice.randrange(size(box))), nth(box, dice.randrange(size(box)))
                part = tuple(sorted(dice.sample(range(16), 7)))
                house = mixed(box.order, one, two, part)
                self.assertEqual(house, tuple((two if x in part else one)[x] for x in range(16)))
                self.assertTrue(in_class(box.order, one, house))

    def test_refusals_of_houses(self):
        order, good = chain(3), (-1, 0, 1)
        for part in ((), (0, 1), (3,), (1, 1)):
            self.refuses_bad_houses(lambda house: mixed(order, house, good, part))
            self.refuses_bad_houses(lambda house: mixed(order, good, house, part))
            for name, what, bad in BAD_HOUSES:
                self.refused(name, what, mixed, order, bad, (), part)
                self.refused(name, what, mixed, order, bad, (-1,) * 4, part)
                self.refused(name, what, mixed, order, (2, 0, -1), bad, part)
            self.refused("NotJoined", 0, mixed, order, good, (2, 0, -1), part)
            self.refused("NotJoined", 0, mixed, flat(3), good, (-1, -1, -1), part)

    def test_refusals_of_places(self):
        box = box_of(chain(3), (-1, 0, 1))
        for p in NO_PLACES + (-1, 3, 4):
            for part in ((p,), (p, 0), (p, p), (0, p), (0, 1, p), (0, 1, 2, p)):
                self.refused("BadPlace", p, mixed, box.order, (-1, 0, 1), (-1, 0, 0), part)
        for part, p in (((0, 0), 0), ((1, 0), 0), ((2, 1, 0), 1), ((0, 2, 1), 1), ((0, 1, 1, 5), 1), ((1, 1, -1), 1)):
            self.refused("BadPlace", p, mixed, box.order, (-1, 0, 1), (-1, 0, 0), part)
