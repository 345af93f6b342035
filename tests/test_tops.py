"""Tops: nearlords.tops ([25.1])."""
import itertools
import random

from nearlords.boxes import box_of, size
from nearlords.boxranks import nth
from nearlords.climbboxes import climb_box, climbs_to
from nearlords.joined import joined
from nearlords.narrow import both_boxes
from nearlords.ordermakers import chain, flat
from nearlords.tops import common_count, top_of, top_of_all
from tests import oracle
from tests.base import BAD_HOUSES, Case, all_houses, all_orders, quick
from tests.boxcases import big_boxes
from tests.test_deeds import cases


class TopOf(Case):

    def test_examples(self):
        order = chain(3)
        self.same(top_of(order, (-1, 0, -1), (-1, -1, 1)), (-1, -1, -1))
        self.same(common_count(order, (-1, 0, -1), (-1, -1, 1)), 1)
        self.same(top_of(order, (-1, 0, 1), (-1, 0, 0)), (-1, 0, 0))
        self.same(common_count(order, (-1, 0, 1), (-1, 0, 0)), 4)

    def test_by_search(self):
        for order in all_orders(1) + all_orders(2) + all_orders(3) + [chain(4)] + all_orders(4)[1::40]:
            for one, others in oracle.classes(order, all_houses(order.n)).items():
                reach = oracle.up_reach(order, one)
                for two in others:
                    both = reach & oracle.up_reach(order, two)
                    tops = [house for house in both if oracle.up_reach(order, house) == both]
                    self.same(top_of(order=order, one=one, two=two), tops[0])
                    self.same(common_count(order=order, one=one, two=two), len(both))

    def test_the_first_on_both_paths(self):
        dice = random.Random(4)
        for order, house in cases():
            box = box_of(order, house)
            other = nth(box, dice.randrange(size(box)))
            top = top_of(order, house, other)
            for x in range(order.n):
                line = oracle.above(other, x) + [-1]
                self.assertEqual(top[x], next(p for p in oracle.above(house, x) + [-1] if p in line))
            self.same(top_of(order, other, house), top)
            self.assertEqual(top == other, climbs_to(order, house, other))
            both = both_boxes(climb_box(order, house), climb_box(order, other))
            self.assertTrue(climb_box(order, top) == both)
            self.same(common_count(order, house, other), size(both))
            self.same(top_of(order, house, house), house)

    def test_16_places(self):
        dice = random.Random(8)
        with quick(10):
            for box in big_boxes():
                one, two, three = (nth(box, dice.randrange(size(box))) for _ in range(3))
                top = top_of(box.order, one, two)
                self.assertTrue(climbs_to(box.order, one, top) and climbs_to(box.order, two, top))
                self.same(top_of_all(box.order, (one, two, three)), top_of(box.order, three, top))
            self.same(common_count(chain(16), tuple(range(-1, 15)), tuple(range(-1, 15))), 20922789888000)

    def test_refusals(self):
        order, good = chain(3), (-1, 0, 1)
        for call in (top_of, common_count):
            self.refuses_bad_houses(lambda house: call(order, house, good))
            self.refuses_bad_houses(lambda house: call(order, good, house))
            for name, what, bad in BAD_HOUSES:
                self.refused(name, what, call, order, bad, ())
                self.refused(name, what, call, order, bad, (-1,) * 4)
                self.refused(name, what, call, order, (2, 0, -1), bad)
            self.refused("NotJoined", 0, call, order, good, (2, 0, -1))
            self.refused("NotJoined", 0, call, flat(2), (-1, 0), (-1, -1))


class TopOfAll(Case):

    def test_a_single_house(self):
        for order in all_orders(3)[::5]:
            for house in all_houses(3):
                self.same(top_of_all(order=order, houses=(house,)), house)

    def test_by_search_in_any_order(self):
        dice = random.Random(5)
        for order in all_orders(3) + [chain(4)] + all_orders(4)[2::40]:
            found = oracle.classes(order, all_houses(order.n))
            for one in all_houses(order.n)[::3]:
                houses = [one] + [dice.choice(sorted(found[one])) for _ in range(dice.randrange(1, 4))]
                both = set.intersection(*(oracle.up_reach(order, house) for house in houses))
                tops = [house for house in both if oracle.up_reach(order, house) == both]
                for row in itertools.permutations(houses):
                    self.same(top_of_all(order, row), tops[0])

    def test_a_whole_class(self):
        for order, house in cases()[::7]:
            box = box_of(order, house)
            if size(box) < 800:
                form = oracle.lords_of(order, house)
                self.same(top_of_all(order, tuple(oracle.houses_in(box))), form)

    def test_refusals(self):
        order, good = chain(3), (-1, 0, 1)
        self.refused("BadCount", 0, top_of_all, order, ())
        self.refused("BadCount", 0, top_of_all, flat(1), ())
        for at in range(4):
            houses = [good] * 4
            self.refuses_bad_houses(lambda house: top_of_all(order, tuple(houses[:at] + [house] + houses[at + 1:])))
            for name, what, bad in BAD_HOUSES:
                # Another house further on, bad or not joined, comes later.
                later = houses[:at] + [bad] + [(2, 0, -1), ()]
                self.refused(name, what, top_of_all, order, tuple(later))
                self.refused(name, what, top_of_all, order, (good, (2, 0, -1), bad))
        for index in (1, 2, 3):
            houses = [good] * index + [(2, 0, -1), (-1, 2, -1)]
            self.refused("NotJoined", index, top_of_all, order, tuple(houses))
        self.refused("NotJoined", 1, top_of_all, order, ((2, 0, -1), good, (2, 0, -1)))

    def test_joined_alone_counts(self):
        order = chain(3)
        for one in all_houses(3):
            for two in all_houses(3):
                if joined(order, one, two):
                    self.same(top_of_all(order, (one, two)), top_of(order, one, two))
                else:
                    self.refused("NotJoined", 1, top_of_all, order, (one, two))
