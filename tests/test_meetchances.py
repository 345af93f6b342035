"""Chances of meetings: nearlords.meetchances ([30])."""
import random
from fractions import Fraction

from nearlords.boxes import box_of
from nearlords.depthchances import mean_depth
from nearlords.meetchances import meet_chances, ways_mean
from nearlords.ordermakers import chain, flat
from tests import oracle
from tests.base import NO_PLACES, Case, quick
from tests.boxcases import big_boxes, small_boxes, tables_for

B = box_of(chain(3), (-1, 0, 1))


class Meet(Case):

    def test_examples(self):
        self.same(meet_chances(B, 1, 2), ((-1, (1, 2)), (0, (1, 6)), (1, (1, 3))))
        self.same(ways_mean(B, 1, 2), (2, 1))
        self.same(ways_mean(B, -1, 1), (3, 2))

    def test_by_listing(self):
        dice = random.Random(50)
        for box in small_boxes()[::5]:
            for table in [None] + tables_for(dice, box, 1):
                weighed = oracle.weighed_houses(box, table)
                for x in range(-1, box.order.n):
                    for y in range(-1, box.order.n):
                        self.check(box, x, y, table, weighed)

    def check(self, box, x, y, table, weighed):
        mean = oracle.mean_of(weighed, lambda house: oracle.ways_of(house, x, y))
        self.same(ways_mean(box=box, x=x, y=y, table=table), mean)
        if x != -1 and y != -1:
            met = {house: oracle.meet_of(house, x, y) for house, _ in weighed}
            chances = tuple((z, oracle.mean_of(weighed, lambda house: met[house] == z))
                            for z in sorted(set(met.values())))
            self.same(meet_chances(box=box, x=x, y=y, table=table), chances)

    def test_x_and_itself(self):
        for box in small_boxes()[::9] + big_boxes()[::5]:
            for x in range(box.order.n):
                self.same(meet_chances(box, x, x), ((x, (1, 1)),))
                self.same(ways_mean(box, x, x), (0, 1))
            self.same(ways_mean(box, -1, -1), (0, 1))

    def test_a_box_of_one_house(self):
        box = box_of(flat(3), (-1, 0, 0))
        self.same(meet_chances(box, 1, 2), ((0, (1, 1)),))
        self.same(meet_chances(box, 0, 2), ((0, (1, 1)),))
        self.same(ways_mean(box, 1, 2), (2, 1))
        self.same(ways_mean(box, -1, 2), (2, 1))

    def test_16_places(self):
        with quick(40):
            for box in big_boxes()[::8]:
                for table in [None] + tables_for(random.Random(51), box, 1):
                    depths = [Fraction(*mean_depth(box, x, table=table)) for x in range(16)] + [Fraction(-1)]
                    for x in range(16):
                        for y in range(-1, x + 1):
                            self.check_sums(box, x, y, table, depths)

    def check_sums(self, box, x, y, table, depths):
        far = depths[x] - depths[y]
        if y != -1:
            chances = meet_chances(box, x, y, table=table)
            self.assertEqual(sum(Fraction(*chance) for _, chance in chances), 1)
            self.assertEqual([z for z, _ in chances], sorted({z for z, _ in chances}))
            self.same(meet_chances(box, y, x, table=table), chances)
            far = depths[x] + depths[y] - 2 * sum(depths[z] * Fraction(*chance) for z, chance in chances)
        self.same(ways_mean(box, x, y, table=table), oracle.pair(far))
        self.same(ways_mean(box, y, x, table=table), oracle.pair(far))

    def test_refusals(self):
        for x in NO_PLACES + (3,):
            for call in (meet_chances, ways_mean):
                self.refused("BadPlace", x, call, B, x, 0)
                self.refused("BadPlace", x, call, B, x, 99)
                self.refused("BadPlace", x, call, B, 2, x)
                self.refused("BadPlace", x, call, B, x, x)
            self.refused("BadPlace", x, ways_mean, B, -1, x)
            self.refused("BadPlace", x, ways_mean, B, x, -1)
        self.refused("BadPlace", -1, meet_chances, B, -1, 0)
        self.refused("BadPlace", -1, meet_chances, B, 0, -1)
        self.refused("BadPlace", -1, meet_chances, B, -1, 99)
