"""Climbings over a box: nearlords.upcounts ([25.2])."""
import random
from fractions import Fraction

from nearlords.boxes import box_of, size
from nearlords.boxranks import nth
from nearlords.climbcounts import fewest_ups, most_ups
from nearlords.narrow import narrowed
from nearlords.ordermakers import chain, flat
from nearlords.upcounts import climbers_counts, mean_fewest, mean_most, ups_counts
from tests import oracle
from tests.base import Case, quick
from tests.boxcases import big_boxes, small_boxes

B = box_of(chain(3), (-1, 0, 1))


def counted(numbers):
    """Return the polynomial of how often each number stands among some."""
    return tuple(numbers.count(k) for k in range(max(numbers) + 1))


class Ups(Case):

    def test_examples(self):
        self.same(ups_counts(B), (1, 3, 2))
        self.same(climbers_counts(B), (1, 3, 2))
        self.same(mean_fewest(B), (7, 6))
        self.same(mean_most(B), (4, 3))

    def test_by_listing(self):
        for box in small_boxes():
            order, houses = box.order, oracle.houses_in(box)
            few = [sum(oracle.steps_of(order, house, x) for x in range(order.n)) for house in houses]
            self.same(ups_counts(box=box), counted(few))
            self.same(mean_fewest(box=box), oracle.pair(Fraction(sum(few), len(few))))
            climbers = [len(oracle.ups_from(order, house)) for house in houses]
            self.same(climbers_counts(box=box), counted(climbers))
            most = [most_ups(order, house) for house in houses]
            self.same(mean_most(box=box), oracle.pair(Fraction(sum(most), len(most))))

    def test_boxes_without_the_form(self):
        box = narrowed(narrowed(B, 1, (0,)), 2, (1,))
        self.same(ups_counts(box), (0, 0, 1))
        self.same(climbers_counts(box), (0, 0, 1))
        self.same(mean_fewest(box), (2, 1))
        self.same(mean_most(box), (3, 1))
        # From under 0 it is two steps to the door, by way of 1, the lord of 0.
        order, house = chain(4), (1, -1, 0, 2)
        self.assertEqual(box_of(order, house).rows[3], (-1, 0, 1, 2))
        self.same(ups_counts(narrowed(box_of(order, house), 3, (-1, 0))), (1, 1, 2, 1, 1))

    def test_boxes_of_one_house(self):
        for n in (1, 3, 16):
            box = box_of(flat(n), tuple(range(-1, n - 1)))
            self.same(ups_counts(box), (1,))
            self.same(climbers_counts(box), (1,))
            self.same(mean_fewest(box), (0, 1))
            self.same(mean_most(box), (0, 1))

    def test_16_places(self):
        dice = random.Random(80)
        with quick(20):
            for box in big_boxes():
                counts = ups_counts(box)
                self.assertEqual(sum(counts), size(box))
                self.assertNotEqual(counts[-1], 0)
                mean = Fraction(sum(k * many for k, many in enumerate(counts)), size(box))
                self.same(mean_fewest(box), oracle.pair(mean))
                self.assertEqual(sum(climbers_counts(box)), size(box))
                self.assertNotEqual(climbers_counts(box)[-1], 0)
                some = [nth(box, dice.randrange(size(box))) for _ in range(5)]
                self.assertTrue(all(counts[fewest_ups(box.order, house)] for house in some))
                if size(box) <= 300:
                    most = [most_ups(box.order, house) for house in oracle.houses_in(box)]
                    self.same(mean_most(box), oracle.pair(Fraction(sum(most), len(most))))
            path = big_boxes()[0]
            mean = sum(Fraction(1, y + 2) for x in range(16) for y in range(x))
            self.same(mean_most(path), oracle.pair(mean))
            self.same(mean_fewest(path), oracle.pair(sum(Fraction(x, x + 1) for x in range(16))))
