"""What can be climbed to: nearlords.climbboxes ([25])."""
import itertools
import math

from nearlords.boxes import Box, box_of, holds, size
from nearlords.climbboxes import climb_box, climb_count, climbs_to
from nearlords.climbed import climbed
from nearlords.ordermakers import chain, flat
from tests import oracle
from tests.base import BAD_HOUSES, Case, all_houses, all_orders, quick, samples
from tests.test_deeds import cases


class ClimbBox(Case):

    def test_examples(self):
        self.same(climb_box(chain(3), (-1, 0, 1)).rows, ((-1,), (-1, 0), (-1, 0, 1)))
        self.same(climb_count(chain(3), (-1, 0, 1)), 6)
        self.same(climb_box(chain(3), (-1, -1, 1)).rows, ((-1,), (-1,), (-1, 1)))
        self.same(climb_count(chain(3), (-1, -1, 1)), 2)

    def test_the_path_as_far_as_the_lord(self):
        for order, house in cases():
            box = climb_box(order=order, house=house)
            self.assertIs(type(box), Box)
            self.assertTrue(box.order == order)
            self.same(box.lords, oracle.lords_of(order, house))
            for x, row in enumerate(box.rows):
                line = oracle.above(house, x) + [-1]
                self.same(row, tuple(sorted(line[:line.index(box.lords[x]) + 1])))
            self.assertTrue(holds(box, house) and holds(box, climbed(order, house)))
            whole = box_of(order, house).rows
            self.assertTrue(all(p in wide for row, wide in zip(box.rows, whole) for p in row))

    def test_just_the_houses_to_which_ups_lead(self):
        for n in (1, 2, 3, 4):
            for order in all_orders(n) if n < 4 else all_orders(4)[::12] + [chain(4)]:
                for house in all_houses(n):
                    reach = oracle.up_reach(order, house)
                    self.assertEqual(set(itertools.product(*climb_box(order, house).rows)), reach)
                    self.same(climb_count(order=order, house=house), len(reach))
        for order, house in samples(20, 5) + samples(20, 6):
            self.assertEqual(set(itertools.product(*climb_box(order, house).rows)), oracle.up_reach(order, house))

    def test_16_places(self):
        order, house = chain(16), tuple(range(-1, 15))
        with quick(5):
            self.assertTrue(climb_box(order, house) == box_of(order, house))
            self.same(climb_count(order, house), math.factorial(16))
            self.same(climb_count(order, (-1,) * 16), 1)
            self.same(climb_count(flat(16), house), 1)
            self.same(climbs_to(order, house, (-1,) * 16), True)

    def test_refusals(self):
        for call in (climb_box, climb_count):
            self.refuses_bad_houses(lambda house: call(chain(3), house))


class ClimbsTo(Case):

    def test_by_search(self):
        for n in (1, 2, 3):
            for order in all_orders(n):
                for house in all_houses(n):
                    reach = oracle.up_reach(order, house)
                    for other in all_houses(n):
                        self.same(climbs_to(order=order, house=house, other=other), other in reach)
        for order, house in samples(15, 5):
            reach = oracle.up_reach(order, house)
            for other in all_houses(5):
                self.same(climbs_to(order, house, other), other in reach)

    def test_not_both_ways(self):
        for order in all_orders(3)[::2] + [chain(3)]:
            for one in all_houses(3):
                for two in all_houses(3):
                    both = climbs_to(order, one, two) and climbs_to(order, two, one)
                    self.assertEqual(both, one == two)
                self.same(climb_count(order, one), sum(climbs_to(order, one, two) for two in all_houses(3)))

    def test_counts_of_a_class(self):
        box = box_of(chain(4), (-1, 0, 1, 2))
        self.assertEqual(size(box), 24)
        self.assertEqual(max(climb_count(chain(4), house) for house in oracle.houses_in(box)), 24)

    def test_refusals(self):
        order, good = chain(3), (-1, 0, 1)
        self.refuses_bad_houses(lambda house: climbs_to(order, house, good))
        self.refuses_bad_houses(lambda house: climbs_to(order, good, house))
        for name, what, bad in BAD_HOUSES:
            self.refused(name, what, climbs_to, order, bad, ())
            self.refused(name, what, climbs_to, order, bad, (-1,) * 4)
            self.refused(name, what, climbs_to, order, (2, 0, -1), bad)
