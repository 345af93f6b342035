"""Boxes: nearlords.boxes ([20])."""
import itertools
import math
import random

from nearlords.admitted import admitted, in_class
from nearlords.boxes import Box, box_of, holds, size
from nearlords.orderlooks import is_chain
from nearlords.ordermakers import chain, flat, ranked
from nearlords.orders import made_order
from tests import oracle
from tests.base import Case, all_houses, all_orders, pairs_of, quick, samples
from tests.test_deeds import cases


class BoxOf(Case):

    def test_examples(self):
        box = box_of(chain(3), (-1, 0, 1))
        self.assertIs(type(box), Box)
        self.same(box.rows, ((-1,), (-1, 0), (-1, 0, 1)))
        self.same(box.lords, (-1, -1, -1))
        self.assertTrue(box.order == chain(3))
        self.same(size(box), 6)
        box = box_of(chain(3), (2, 0, -1))
        self.same(box.rows, ((2,), (0, 2), (-1,)))
        self.same(box.lords, (2, 2, -1))
        self.same(size(box), 2)

    def test_rows_of_admitted_parents(self):
        for order, house in cases():
            box = box_of(order=order, house=house)
            self.assertTrue(box.order == order)
            self.same(box.lords, oracle.lords_of(order, house))
            self.same(box.rows, tuple(admitted(order, house, x) for x in range(order.n)))
            self.same(size(box=box), math.prod(len(row) for row in box.rows))
            self.same(holds(box, house), True)
            self.same(holds(box, box.lords), True)

    def test_the_same_box_for_the_whole_class(self):
        for order in all_orders(3) + all_orders(4)[::20] + [chain(4)]:
            for house, others in oracle.classes(order, all_houses(order.n)).items():
                box = box_of(order, house)
                self.same(size(box), len(others))
                self.assertTrue(all(box == box_of(order, other) for other in others))
                self.assertEqual(set(itertools.product(*box.rows)), set(others))

    def test_greatest_and_least_classes(self):
        for n in range(1, 17):
            self.same(size(box_of(chain(n), (-1,) * n)), math.factorial(n))
            self.same(size(box_of(flat(n), (-1,) * n)), 1)
        for order, house in cases():
            self.assertLessEqual(size(box_of(order, house)), math.factorial(order.n))
            if is_chain(order):
                self.same(size(box_of(order, (-1,) * order.n)), math.factorial(order.n))

    def test_16_places_quickly(self):
        with quick(20):
            for order, house in samples(40, 16):
                box = box_of(order, house)
                dice = random.Random(9)
                for _ in range(5):
                    self.same(in_class(order, house, tuple(dice.choice(row) for row in box.rows)), True)

    def test_refusals(self):
        self.refuses_bad_houses(lambda house: box_of(chain(3), house))


class Equality(Case):

    def test_equal_just_if_the_attributes_are(self):
        boxes = [(order, house, box_of(order, house)) for order in all_orders(3)[::3] for house in all_houses(3)]
        for order, house, one in boxes:
            again = box_of(made_order(3, tuple(pairs_of(order))), house)
            self.assertIs(one == again, True)
            for other_order, _, two in boxes:
                equal = order == other_order and one.lords == two.lords
                self.assertIs(one == two, equal)
                self.assertIs(one != two, not equal)

    def test_each_attribute_counts(self):
        box = box_of(chain(3), (-1, 0, 1))
        self.assertIs(box == Box(chain(3), box.lords, box.rows), True)
        self.assertIs(box == Box(ranked((0, 1, 1)), box.lords, box.rows), False)
        self.assertIs(box == Box(chain(3), (2, 2, -1), box.rows), False)
        self.assertIs(box == Box(chain(3), box.lords, ((-1,), (-1,), (-1, 0, 1))), False)


class Holds(Case):

    def test_just_the_houses_of_the_class(self):
        for order in all_orders(1) + all_orders(2) + all_orders(3) + all_orders(4)[::50]:
            found = oracle.classes(order, all_houses(order.n))
            for house in all_houses(order.n):
                box = box_of(order, house)
                for other in all_houses(order.n):
                    self.same(holds(box, other), other in found[house])

    def test_of_rows_that_are_not_whole(self):
        box = Box(chain(3), (-1, -1, -1), ((-1,), (-1,), (0, 1)))
        for house in all_houses(3):
            self.same(holds(box=box, house=house), house in ((-1, -1, 0), (-1, -1, 1)))
        self.same(size(box), 2)

    def test_other_forms(self):
        box = box_of(chain(3), (-1, 0, 1))
        self.no_judge_raises(holds, (1,), [box, (-1, 0, 1)])
        for odd in ((-1, 0), (-1, 0, 1, 2), (-1, 0, 1, -1), (-1, 0, "1"), ("-1", "0", "1"), (-1, (0,), 1), "abc", 3,
                    (-1, 0, 2), (-1, 1, 0), (0, 0, 0), (-1, 0, 10 ** 40), (), (-1,), ((-1, 0, 1),) * 3):
            self.same(holds(box, odd), False)
        single = box_of(chain(1), (-1,))
        self.same(holds(single, (-1,)), True)
        for odd in ((), -1, "-", ("-",), (0,), (-1, -1)):
            self.same(holds(single, odd), False)
