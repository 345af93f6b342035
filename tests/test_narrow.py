"""Boxes narrowed, and what two have in common: nearlords.narrow ([20])."""
import itertools
import random

from nearlords.boxes import Box, box_of, holds, size
from nearlords.narrow import both_boxes, narrowed
from nearlords.ordermakers import chain, flat, ranked
from tests import oracle
from tests.base import NO_PLACES, Case, all_orders, quick
from tests.boxcases import big_boxes, boxes_of, class_boxes, narrowed_somewhere, small_boxes

B = box_of(chain(3), (-1, 0, 1))


def parts_of(row):
    """Return all parts of a row but the empty one."""
    return [part for many in range(1, len(row) + 1) for part in itertools.combinations(row, many)]


class Narrowed(Case):

    def test_each_part_of_each_row(self):
        for box in class_boxes()[::7]:
            for x, row in enumerate(box.rows):
                for part in parts_of(row):
                    found = narrowed(box=box, x=x, parents=part)
                    self.assertIs(type(found), Box)
                    self.same(found.rows, box.rows[:x] + (part,) + box.rows[x + 1:])
                    self.assertTrue(found.order == box.order)
                    self.same(found.lords, box.lords)
                    houses = [house for house in oracle.houses_in(box) if house[x] in part]
                    self.assertEqual(oracle.houses_in(found), houses)
                    self.assertEqual(size(found), len(houses))

    def test_again_and_in_any_order(self):
        once = narrowed(B, 2, (-1, 1))
        again = narrowed(once, 2, (1,))
        self.same(again.rows, ((-1,), (-1, 0), (1,)))
        self.assertTrue(narrowed(again, 2, (1,)) == again)
        self.refused("BadNarrow", 0, narrowed, again, 2, (-1,))
        self.refused("BadNarrow", 1, narrowed, once, 2, (-1, 0))
        self.assertTrue(narrowed(narrowed(B, 1, (0,)), 2, (0, 1)) == narrowed(narrowed(B, 2, (0, 1)), 1, (0,)))

    def test_the_box_handed_in_does_not_change(self):
        narrowed(B, 2, (1,))
        self.same(B.rows, ((-1,), (-1, 0), (-1, 0, 1)))

    def test_refusals(self):
        for x in NO_PLACES + (-1, 3):
            for parents in ((-1,), (), (5,), (0, 0)):
                self.refused("BadPlace", x, narrowed, B, x, parents)
        for x in range(3):
            self.refused("BadNarrow", -1, narrowed, B, x, ())
        for index, x, parents in (
                (0, 2, (2,)), (0, 2, (3,)), (0, 2, (-2,)), (0, 2, (10 ** 40, 0)), (0, 0, (0,)), (0, 0, (1, -1)),
                (1, 2, (0, 0)), (1, 2, (0, -1)), (1, 2, (-1, 2)), (2, 2, (-1, 0, 0)), (2, 2, (-1, 0, -1)),
                (3, 2, (-1, 0, 1, 2)), (1, 2, (1, 0, 7)), (2, 2, (-1, 1, 0)), (1, 0, (-1, -1)), (0, 1, (1,))):
            self.refused("BadNarrow", index, narrowed, B, x, parents)


class BothBoxes(Case):

    def test_houses_in_both(self):
        dice = random.Random(6)
        for box in small_boxes()[::3]:
            one, two = narrowed_somewhere(dice, box, 6), narrowed_somewhere(dice, box, 6)
            houses = [house for house in oracle.houses_in(one) if holds(two, house)]
            for found in (both_boxes(one=one, two=two), both_boxes(two, one)):
                if not houses:
                    self.assertIsNone(found)
                else:
                    self.assertIs(type(found), Box)
                    self.assertEqual(oracle.houses_in(found), houses)
                    self.assertTrue(found.order == box.order)
                    self.same(found.lords, box.lords)
                    self.assertTrue(all(type(row) is tuple for row in found.rows))
                    self.same(type(found.rows), tuple)
            self.assertTrue(both_boxes(box, one) == one)
            self.assertTrue(both_boxes(one, one) == one)

    def test_no_house_in_common(self):
        self.assertIsNone(both_boxes(narrowed(B, 2, (1,)), narrowed(B, 2, (-1, 0))))
        self.assertIsNone(both_boxes(narrowed(B, 1, (-1,)), narrowed(B, 1, (0,))))
        self.same(both_boxes(narrowed(B, 1, (-1,)), narrowed(B, 2, (0,))).rows, ((-1,), (-1,), (0,)))

    def test_16_places(self):
        dice = random.Random(7)
        with quick(5):
            for box in big_boxes():
                one, two = narrowed_somewhere(dice, box, 3), narrowed_somewhere(dice, box, 3)
                rows = tuple(tuple(p for p in left if p in right) for left, right in zip(one.rows, two.rows))
                found = both_boxes(one, two)
                self.assertEqual(None if () in rows else rows, found and found.rows)

    def test_refusals(self):
        self.refused("Unlike", 0, both_boxes, B, box_of(ranked((0, 0, 1)), (-1, 0, 1)))
        self.refused("Unlike", 0, both_boxes, B, box_of(flat(3), (-1, -1, -1)))
        self.refused("Unlike", 0, both_boxes, B, box_of(chain(4), (-1, 0, 1, 2)))
        self.refused("Unlike", 1, both_boxes, B, box_of(chain(3), (2, 0, -1)))
        for order in all_orders(3)[::4]:
            boxes = boxes_of(order)
            for one in boxes:
                for two in boxes:
                    if one.lords != two.lords:
                        self.refused("Unlike", 1, both_boxes, one, two)
            self.refused("Unlike", 0, both_boxes, boxes[-1], box_of(chain(2), (1, -1)))
