"""Houses counted: nearlords.housecounts ([11])."""
import itertools
import math

from nearlords.codes import code, house_of
from nearlords.housecounts import door_count, house_count, house_rank, nth_house
from tests.base import NO_PLACES, Case, all_houses, samples

BIG = 10 ** 30


class HouseCounts(Case):

    def test_house_count(self):
        for n in range(1, 17):
            self.same(house_count(n), (n + 1) ** (n - 1))
        for n in (1, 2, 3, 4, 5):
            self.same(house_count(n=n), len(all_houses(n)))
        self.same(house_count(16), 2862423051509815793)

    def test_houses_of_up_to_5_places_by_number(self):
        for n in (1, 2, 3, 4, 5):
            for k, numbers in enumerate(itertools.product(range(n + 1), repeat=n - 1)):
                house = nth_house(n, k)
                self.assertIs(type(house), tuple)
                self.assertEqual(code(house), numbers)
                self.same(house_rank(house), k)
            self.assertEqual(sorted(nth_house(n, k) for k in range(house_count(n))), all_houses(n))

    def test_16_places(self):
        last = 17 ** 15 - 1
        self.same(nth_house(n=16, k=0), house_of(16, (0,) * 15))
        self.same(nth_house(16, last), (-1,) * 16)
        self.same(house_rank(house=(-1,) * 16), last)
        self.same(nth_house(16, 5), house_of(16, (0,) * 14 + (5,)))
        self.same(nth_house(16, 5 * 17 ** 14), house_of(16, (5,) + (0,) * 14))
        for k in (1, 16, 17, 10 ** 18, last // 2, last - 1):
            self.same(house_rank(nth_house(16, k)), k)
        for _, house in samples(20, 16):
            self.same(nth_house(16, house_rank(house)), house)

    def test_no_number_of_a_house(self):
        for n in range(1, 17):
            many = (n + 1) ** (n - 1)
            for k in (-1, -BIG, many, many + 1, many + BIG):
                self.refused("BadCount", k, nth_house, n, k)
        self.same(nth_house(1, 0), (-1,))

    def test_door_count(self):
        for n in (1, 2, 3, 4, 5):
            for k in range(-2, n + 3):
                self.same(door_count(n, k), sum(house.count(-1) == k for house in all_houses(n)))
        for n in range(1, 17):
            for k in range(1, n + 1):
                self.same(door_count(n=n, k=k), math.comb(n - 1, k - 1) * n ** (n - k))
            for k in (0, -1, n + 1, -BIG, BIG):
                self.same(door_count(n, k), 0)
            self.assertEqual(sum(door_count(n, k) for k in range(n + 1)), house_count(n))

    def test_refusals(self):
        for n in NO_PLACES + (0, -1):
            if n != 16:
                self.refused("BadSize", n, house_count, n)
                self.refused("BadSize", n, nth_house, n, 0)
                self.refused("BadSize", n, nth_house, n, -1)
                self.refused("BadSize", n, door_count, n, 1)
                self.refused("BadSize", n, door_count, n, -BIG)
        self.refused("BadSize", 0, house_rank, ())
        self.refused("BadSize", 17, house_rank, (-1,) * 17)
        self.refused("BadParent", 0, house_rank, (0,))
        self.refused("BadParent", 2, house_rank, (1, 0, 2))
        self.refused("Round", 0, house_rank, (1, 0))
