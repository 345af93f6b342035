"""Chances of depths: nearlords.depthchances ([28])."""
import random
from fractions import Fraction

from nearlords.boxes import box_of
from nearlords.depthchances import depth_bounds, depth_chances, mean_depth
from nearlords.ordermakers import chain, flat
from tests import oracle
from tests.base import NO_PLACES, Case, quick
from tests.boxcases import big_boxes, small_boxes, tables_for

B = box_of(chain(3), (-1, 0, 1))


class Depths(Case):

    def test_examples(self):
        self.same(depth_chances(B, 2), ((1, 3), (1, 2), (1, 6)))
        self.same(mean_depth(B, 2), (5, 6))
        self.same(depth_bounds(B, 2), (0, 2))
        self.same(depth_bounds(B, 2, table=((1, 1, 1, 1), (1, 1, 1, 1), (1, 0, 0, 1))), (0, 0))
        self.same(mean_depth(B, 1, table=((1, 0, 0, 0), (2, 3, 0, 0), (1, 1, 1, 0))), (3, 5))

    def test_by_listing(self):
        dice = random.Random(30)
        for box in small_boxes():
            for table in [None] + tables_for(dice, box, 2):
                weighed = oracle.weighed_houses(box, table)
                for x in range(box.order.n):
                    self.check(box, x, table, weighed)

    def check(self, box, x, table, weighed):
        depths = {house: len(oracle.above(house, x)) for house, _ in weighed}
        chances = tuple(oracle.mean_of(weighed, lambda house: depths[house] == d)
                        for d in range(max(depths.values()) + 1))
        self.same(depth_chances(box=box, x=x, table=table), chances)
        self.same(mean_depth(box=box, x=x, table=table), oracle.mean_of(weighed, depths.get))
        self.same(depth_bounds(box=box, x=x, table=table), (min(depths.values()), max(depths.values())))

    def test_a_box_of_one_house(self):
        path = tuple(range(-1, 15))
        for x in range(16):
            self.same(depth_chances(box_of(flat(16), path), x), ((0, 1),) * x + ((1, 1),))
            self.same(mean_depth(box_of(flat(16), path), x), (x, 1))
            self.same(depth_bounds(box_of(flat(16), path), x), (x, x))
        self.same(depth_chances(box_of(chain(1), (-1,)), 0), ((1, 1),))
        self.same(mean_depth(box_of(chain(1), (-1,)), 0), (0, 1))

    def test_16_places(self):
        path = big_boxes()[0]
        with quick(10):
            for x in range(16):
                mean = sum(Fraction(1, y + 2) for y in range(x))
                self.same(mean_depth(path, x), oracle.pair(mean))
                chances = [Fraction(*one) for one in depth_chances(path, x)]
                self.assertEqual(len(chances), x + 1)
                self.assertEqual(sum(chances), 1)
            for box in big_boxes():
                for table in [None] + tables_for(random.Random(31), box, 2):
                    self.check_sums(box, table)

    def check_sums(self, box, table):
        for x in range(16):
            chances = [Fraction(*one) for one in depth_chances(box, x, table=table)]
            self.assertEqual(sum(chances), 1)
            mean = sum(d * chance for d, chance in enumerate(chances))
            self.same(mean_depth(box, x, table=table), oracle.pair(mean))
            least = min(d for d, chance in enumerate(chances) if chance > 0)
            self.same(depth_bounds(box, x, table=table), (least, len(chances) - 1))
            self.assertGreater(chances[-1], 0)

    def test_refusals(self):
        for call in (depth_chances, mean_depth, depth_bounds):
            for x in NO_PLACES + (-1, 3):
                self.refused("BadPlace", x, call, B, x)
