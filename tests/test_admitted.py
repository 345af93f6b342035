"""Admitted parents: nearlords.admitted ([19])."""
import itertools

from nearlords.admitted import admitted, in_class
from nearlords.climbed import climbed
from nearlords.ordermakers import chain, flat, ranked
from tests import oracle
from tests.base import NO_PLACES, Case, all_houses, all_orders, quick, samples
from tests.test_deeds import cases


class Admitted(Case):

    def test_examples(self):
        house = (-1, 2, -1, 0)
        self.same(admitted(chain(4), house, 3), (-1, 0, 1, 2))
        self.same(admitted(chain(4), house, 1), (2,))
        self.same(admitted(chain(4), house, 0), (-1,))
        self.same(admitted(chain(4), house, 2), (-1, 0))
        self.same(admitted(ranked((0, 0, 1)), (-1, 0, 1), 2), (-1, 0, 1))

    def test_by_parents_and_by_lords_alike(self):
        for order, house in cases():
            for x in range(order.n):
                found = admitted(order=order, house=house, x=x)
                self.same(found, oracle.admitted_to(order, house, x))
                self.assertIn(house[x], found)
                self.same(admitted(order, climbed(order, house), x), found)

    def test_just_the_parents_in_the_class(self):
        for order in all_orders(2) + all_orders(3) + all_orders(4)[::30] + [chain(4)]:
            for house, others in oracle.classes(order, all_houses(order.n)).items():
                for x in range(order.n):
                    self.same(admitted(order, house, x), tuple(sorted({other[x] for other in others})))

    def test_each_choice_is_a_house_of_the_class(self):
        for order, house in samples(30, 5) + samples(10, 6):
            rows = [admitted(order, house, x) for x in range(order.n)]
            self.assertEqual(set(itertools.product(*rows)), oracle.class_of(order, house))

    def test_16_places(self):
        with quick(5):
            for x in range(16):
                self.same(admitted(chain(16), (-1,) * 16, x), tuple(range(-1, x)))
                self.same(admitted(flat(16), tuple(range(-1, 15)), x), (x - 1,))

    def test_refusals(self):
        order = chain(3)
        self.refuses_bad_houses(lambda house: admitted(order, house, 0))
        self.refuses_bad_houses(lambda house: admitted(order, house, 99))
        for bad in NO_PLACES + (-1, 3):
            self.refused("BadPlace", bad, admitted, order, (-1, 0, 1), bad)
        self.refused("BadPlace", 1, admitted, chain(1), (-1,), 1)


class InClass(Case):

    def test_just_the_houses_that_come_of_it(self):
        for order in all_orders(1) + all_orders(2) + all_orders(3) + all_orders(4)[::40]:
            found = oracle.classes(order, all_houses(order.n))
            for house in all_houses(order.n):
                for other in all_houses(order.n):
                    self.same(in_class(order, house, other), other in found[house])

    def test_other_sizes(self):
        for house, other in (((-1, 0), (-1, 0)), ((-1, 0, 1), (-1, 0)), ((-1, 0), (-1, 0, 1)),
                             ((-1,) * 4, (-1,) * 4), ((-1, 0, 1), (-1,) * 4)):
            self.same(in_class(chain(3), house, other), False)
        for order, house in samples(10, 16):
            self.same(in_class(order=order, house=house, other=climbed(order, house)), True)
            self.same(in_class(order, house, climbed(order, house)[:15]), False)

    def test_other_forms(self):
        self.no_judge_raises(in_class, (1, 2), [chain(3), (-1, 0, 1), (-1, -1, -1)])
        for odd in ((1, 0, -1), (0, -1, -1), (-1, -1, 3), (-2, -1, -1), ("-1", -1, -1), ((-1,), -1, -1)):
            self.same(in_class(chain(3), odd, odd), False)
            self.same(in_class(chain(3), odd, (-1, 0, 1)), False)
            self.same(in_class(chain(3), (-1, 0, 1), odd), False)
