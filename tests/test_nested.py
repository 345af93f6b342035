"""Orders within orders: nearlords.nested ([38])."""
import random

from nearlords.boxes import Box, box_of, size
from nearlords.climbed import climbed
from nearlords.narrow import narrowed
from nearlords.nested import classes_within, forms_box
from nearlords.ordermakers import chain, flat, ranked
from nearlords.orderjoins import met
from nearlords.orders import made_order
from tests import oracle
from tests.base import (
    Case, all_houses, all_orders, big_orders, pairs_of, pairs_of_orders, quick, some_house, some_order,
)
from tests.boxcases import narrowed_somewhere

B = box_of(chain(3), (-1, 0, 1))
RANKS = ranked((0, 0, 1))


def first_pair(under, order):
    """Return the least pair of one order that is none of the other one, or None."""
    return min(pairs_of(under) - pairs_of(order), default=None)


class FormsBox(Case):

    def test_examples(self):
        self.same(forms_box(B, RANKS).rows, ((-1,), (-1, 0), (-1,)))
        self.assertIsNone(forms_box(narrowed(B, 2, (1,)), chain(3)))
        self.assertTrue(forms_box(B, flat(3)) == B)
        self.assertTrue(forms_box(box_of(flat(1), (-1,)), chain(1)) == box_of(flat(1), (-1,)))

    def test_by_listing(self):
        dice = random.Random(90)
        empty = 0
        for order, under in pairs_of_orders():
            for house in {some_house(dice, order.n), some_house(dice, order.n), (-1,) * order.n}:
                whole = box_of(order, house)
                for box in (whole, narrowed_somewhere(dice, whole, 3), narrowed_somewhere(dice, whole, 7)):
                    found = forms_box(box=box, under=under)
                    houses = oracle.forms_of(under, oracle.houses_in(box))
                    if found is None:
                        empty += 1
                        self.assertEqual(houses, [])
                    else:
                        self.assertIs(type(found), Box)
                        self.assertEqual(oracle.houses_in(found), houses)
                        self.assertTrue(found.order == order)
                        self.same(found.lords, box.lords)
                        self.same((type(found.rows), {type(row) for row in found.rows}), (tuple, {tuple}))
        self.assertGreater(empty, 50)

    def test_one_form_for_each_class_within(self):
        for order, under in pairs_of_orders():
            if order.n <= 4:
                classes = {}
                for house in all_houses(order.n):
                    lords = oracle.lords_of(order, house)
                    classes.setdefault(lords, set()).add(oracle.lords_of(under, house))
                for form in sorted(classes)[::3]:
                    houses = oracle.houses_in(forms_box(box_of(order, form), under))
                    self.assertEqual(houses, sorted(classes[form]))

    def test_the_box_handed_in_does_not_change(self):
        forms_box(B, RANKS)
        self.same(B.rows, ((-1,), (-1, 0), (-1, 0, 1)))

    def test_16_places(self):
        dice = random.Random(91)
        with quick(5):
            for order in big_orders():
                box = box_of(order, some_house(dice, 16))
                self.assertTrue(forms_box(box, flat(16)) == box)
                self.same(forms_box(box, order).rows, tuple((lord,) for lord in box.lords))
                found = forms_box(box, met(order, chain(16)))
                self.assertTrue(all(set(part) <= set(row) for part, row in zip(found.rows, box.rows)))

    def test_refusals(self):
        for n in (1, 2, 4, 16):
            self.refused("Unlike", n, forms_box, B, chain(n))
            self.refused("Unlike", n, forms_box, box_of(flat(3), (-1, -1, -1)), chain(n))
        for one in all_orders(3):
            box = box_of(one, (-1, 0, 1))
            for two in all_orders(3):
                pair = first_pair(two, one)
                if pair is not None:
                    self.refused("NotOrder", pair, forms_box, box, two)
        # The least pair goes by x first and then by y, not the other way about.
        box = box_of(flat(4), (-1,) * 4)
        self.refused("NotOrder", (0, 3), forms_box, box, made_order(4, ((2, 1), (0, 3))))
        self.refused("NotOrder", (1, 3), forms_box, box, made_order(4, ((2, 0), (1, 3))))
        self.refused("NotOrder", (0, 1), forms_box, box, chain(4))
        self.refused("NotOrder", (14, 15), forms_box, box_of(ranked((*range(14), 14, 14)), (-1,) * 16), chain(16))


class ClassesWithin(Case):

    def test_examples(self):
        self.same(classes_within(chain(3), flat(3), (-1, 0, 1)), 6)
        self.same(classes_within(chain(3), RANKS, (-1, 0, 1)), 2)
        self.same(classes_within(chain(3), chain(3), (-1, 0, 1)), 1)
        self.same(classes_within(flat(1), flat(1), (-1,)), 1)

    def test_by_listing(self):
        dice = random.Random(92)
        for order, under in pairs_of_orders():
            for house in (some_house(dice, order.n), tuple(range(-1, order.n - 1)), (-1,) * order.n):
                houses = oracle.houses_in(box_of(order, house))
                forms = {oracle.lords_of(under, one) for one in houses}
                self.same(classes_within(order=order, under=under, house=house), len(forms))
                self.assertEqual(len(oracle.forms_of(under, houses)), len(forms))

    def test_climbing_in_one_order_and_then_in_the_other(self):
        dice = random.Random(93)
        cases = pairs_of_orders() + [(order, met(order, some_order(dice, 16))) for order in big_orders()]
        for order, under in cases:
            for _ in range(4):
                house = some_house(dice, order.n)
                self.assertEqual(climbed(order, climbed(under, house)), climbed(order, house))

    def test_16_places(self):
        dice = random.Random(94)
        with quick(5):
            for order in big_orders():
                house = some_house(dice, 16)
                self.same(classes_within(order, flat(16), house), size(box_of(order, house)))
                self.same(classes_within(order, order, house), 1)
        self.same(classes_within(chain(16), flat(16), (-1,) * 16), 20922789888000)

    def test_refusals(self):
        for under in (RANKS, flat(3), chain(4), chain(16), made_order(3, ((2, 0),))):
            self.refuses_bad_houses(lambda house: classes_within(chain(3), under, house))
            self.refuses_bad_houses(lambda house: classes_within(house=house, order=flat(3), under=under))
        for n in (1, 2, 4, 16):
            self.refused("Unlike", n, classes_within, chain(3), chain(n), (-1, 0, 1))
        for one in all_orders(3)[::2]:
            for two in all_orders(3):
                pair = first_pair(two, one)
                if pair is not None:
                    self.refused("NotOrder", pair, classes_within, one, two, (-1, 0, 1))
        # The house is looked at first, also where the orders are unlike.
        self.refused("Unlike", 2, classes_within, chain(3), chain(2), (-1, 0))
        self.refused("Unlike", 4, classes_within, flat(3), chain(4), (-1, 0, 0, 0))
