"""Chances of who stands above: nearlords.abovechances ([29])."""
import random
from fractions import Fraction

from nearlords.abovechances import above_chance, beneath_mean, may_above, sure_above
from nearlords.boxes import box_of
from nearlords.depthchances import mean_depth
from nearlords.ordermakers import chain, flat
from tests import oracle
from tests.base import NO_PLACES, Case, quick
from tests.boxcases import big_boxes, small_boxes, tables_for

B = box_of(chain(3), (-1, 0, 1))


class Above(Case):

    def test_examples(self):
        self.same(above_chance(B, 2, 0), (1, 2))
        self.same(sure_above(B, 2), ())
        self.same(may_above(B, 2), (0, 1))
        self.same(beneath_mean(B, 0), (1, 1))
        self.same(may_above(B, 2, table=((1, 1, 1, 1), (1, 1, 1, 1), (1, 0, 0, 1))), ())

    def test_by_listing(self):
        dice = random.Random(40)
        for box in small_boxes()[::2]:
            for table in [None] + tables_for(dice, box, 1):
                weighed = oracle.weighed_houses(box, table)
                self.check(box, table, weighed)

    def check(self, box, table, weighed):
        n = box.order.n
        lines = {(house, x): oracle.above(house, x) for house, _ in weighed for x in range(n)}
        for x in range(n):
            chances = [oracle.mean_of(weighed, lambda house: y in lines[house, x]) for y in range(n)]
            self.assertEqual([above_chance(box=box, x=x, y=y, table=table) for y in range(n)], chances)
            self.same(sure_above(box=box, x=x, table=table), tuple(y for y in range(n) if chances[y] == (1, 1)))
            self.same(may_above(box=box, x=x, table=table), tuple(y for y in range(n) if chances[y] != (0, 1)))
            beneath = oracle.mean_of(weighed, lambda house: sum(x in lines[house, z] for z in range(n)))
            self.same(beneath_mean(box=box, y=x, table=table), beneath)
        self.assertIs(type(above_chance(box, 0, 0)), tuple)

    def test_a_box_of_one_house(self):
        box = box_of(flat(16), tuple(range(-1, 15)))
        for x in range(16):
            self.same(sure_above(box, x), tuple(range(x)))
            self.same(may_above(box, x), tuple(range(x)))
            self.same(above_chance(box, x, x), (0, 1))
            self.same(beneath_mean(box, x), (15 - x, 1))
            self.same(above_chance(box, 15, x), (int(x < 15), 1))
        self.same(above_chance(box_of(chain(1), (-1,)), 0, 0), (0, 1))

    def test_16_places(self):
        path = big_boxes()[0]
        with quick(20):
            for x in range(16):
                self.same(may_above(path, x), tuple(range(x)))
                self.same(sure_above(path, x), ())
                for y in range(16):
                    self.same(above_chance(path, x, y), (1, y + 2) if y < x else (0, 1))
            for box in big_boxes()[::4]:
                for table in [None] + tables_for(random.Random(41), box, 1):
                    self.check_sums(box, table)

    def check_sums(self, box, table):
        chances = [[Fraction(*above_chance(box, x, y, table=table)) for y in range(16)] for x in range(16)]
        for x in range(16):
            self.same(beneath_mean(box, x, table=table), oracle.pair(sum(row[x] for row in chances)))
            self.same(mean_depth(box, x, table=table), oracle.pair(sum(chances[x])))
            self.same(sure_above(box, x, table=table), tuple(y for y in range(16) if chances[x][y] == 1))
            self.same(may_above(box, x, table=table), tuple(y for y in range(16) if chances[x][y] > 0))

    def test_refusals(self):
        for x in NO_PLACES + (-1, 3):
            for call in (sure_above, may_above, beneath_mean):
                self.refused("BadPlace", x, call, B, x)
            self.refused("BadPlace", x, above_chance, B, x, 0)
            self.refused("BadPlace", x, above_chance, B, x, 99)
            self.refused("BadPlace", x, above_chance, B, 0, x)
            self.refused("BadPlace", x, above_chance, B, x, x)
