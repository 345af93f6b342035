"""Least climbings: nearlords.leastclimbs ([24])."""
import math

from nearlords.climbcounts import fewest_ups
from nearlords.climbed import climbed
from nearlords.leastclimbs import climb_rounds, least_climbs
from nearlords.ordermakers import chain, flat
from tests import oracle
from tests.base import Case, all_houses, all_orders, quick, samples
from tests.test_deeds import cases


def deep_cases():
    """Return cases of 5 to 9 places with some climbings, but not too many for a plain search."""
    found = [case for n in (5, 6, 7, 9) for case in samples(60, n, seed=8)]
    return [case for case in found if fewest_ups(*case) <= 8]


class LeastClimbs(Case):

    def test_example(self):
        self.same(least_climbs(chain(4), (1, -1, 0, 2)), 1)
        self.same(climb_rounds(chain(4), (1, -1, 0, 2)), 3)

    def test_by_all_runs_of_ups(self):
        for n in (1, 2, 3, 4):
            for order in all_orders(n) if n < 4 else all_orders(4)[::6] + [chain(4)]:
                known = {}
                for house in all_houses(n):
                    self.same(least_climbs(order=order, house=house), oracle.up_runs(order, house, known)[1])
        for order, house in deep_cases():
            self.same(least_climbs(order, house), oracle.up_runs(order, house, {})[1])

    def test_by_the_rows_of_single_climbings(self):
        for order, house in cases() + deep_cases():
            waits = oracle.climbings(order, house)
            if len(waits) <= 8:
                self.same(least_climbs(order, house), oracle.rows_of_climbings(waits))

    def test_the_form(self):
        for order, house in cases():
            self.same(least_climbs(order, climbed(order, house)), 1)
            self.same(climb_rounds(order, climbed(order, house)), 0)
        self.same(least_climbs(flat(16), tuple(range(-1, 15))), 1)

    def test_up_to_12(self):
        # 12 places under one that is less than all of them: nobody waits.
        for many in range(13):
            house = (-1,) + (0,) * many + (-1,) * (15 - many)
            self.same(fewest_ups(chain(16), house), many)
            with quick(5):
                self.same(least_climbs(chain(16), house), math.factorial(many))
        # In a path, each waits for the one above it.
        self.same(least_climbs(chain(13), tuple(range(-1, 12))), 1)
        self.same(climb_rounds(chain(13), tuple(range(-1, 12))), 12)

    def test_from_13(self):
        for many in (13, 14, 15):
            house = (-1,) + (0,) * many + (-1,) * (15 - many)
            self.refused("TooMany", many, least_climbs, chain(16), house)
            self.same(climb_rounds(chain(16), house), 1)
        self.refused("TooMany", 15, least_climbs, chain(16), tuple(range(-1, 15)))
        seen = 0
        for order, house in samples(300, 16, seed=9) + samples(100, 12, seed=9):
            many = fewest_ups(order, house)
            if many > 12:
                self.refused("TooMany", many, least_climbs, order, house)
                seen += many > 14
            else:
                with quick(5):
                    self.assertGreaterEqual(least_climbs(order, house), 1)
        self.assertGreater(seen, 3)

    def test_refusals(self):
        for call in (least_climbs, climb_rounds):
            self.refuses_bad_houses(lambda house: call(chain(3), house))
        self.refused("Unlike", 16, least_climbs, chain(3), tuple(range(-1, 15)))
        self.refused("BadSize", 17, least_climbs, chain(16), tuple(range(-1, 16)))


class ClimbRounds(Case):

    def test_longest_waiting(self):
        for order, house in cases() + samples(60, 7, seed=8):
            waits = oracle.climbings(order, house)
            if len(waits) <= 20:
                longest = max((oracle.longest_waiting(waits, one) for one in waits), default=0)
                self.same(climb_rounds(order=order, house=house), longest)

    def test_16_places(self):
        with quick(5):
            self.same(climb_rounds(chain(16), tuple(range(-1, 15))), 15)
            self.same(climb_rounds(flat(16), tuple(range(-1, 15))), 0)
            for order, house in samples(40, 16):
                self.assertLessEqual(climb_rounds(order, house), fewest_ups(order, house))
