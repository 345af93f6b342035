"""Numbers of houses in a box: nearlords.boxranks ([21])."""
import math
import random

from nearlords.boxes import box_of, holds, size
from nearlords.boxranks import drawn, nth, rank
from nearlords.narrow import narrowed
from nearlords.ordermakers import chain, flat
from tests import oracle
from tests.base import BAD_HOUSES, Case, quick
from tests.boxcases import big_boxes, small_boxes

B = box_of(chain(3), (-1, 0, 1))
DIGITS = ((7,), (0,), (-1,), (5, 0, -3), (0, 0, 1), (10 ** 18 + 7, -10 ** 40), (-10 ** 30,), (1, 2, 3, 4, 5, 6))


class Numbers(Case):

    def test_examples(self):
        self.same(nth(B, 4), (-1, 0, 0))
        self.same(rank(B, (-1, 0, 0)), 4)
        self.same(drawn(B, (7,)), (-1, -1, 0))
        self.same(rank(B, (-1, -1, 0)), 1)

    def test_by_listing_ascending(self):
        for box in small_boxes():
            houses = oracle.houses_in(box)
            self.assertEqual([nth(box=box, k=k) for k in range(size(box))], houses)
            self.assertEqual([rank(box=box, house=house) for house in houses], list(range(size(box))))
            self.assertTrue(all(type(nth(box, k)) is tuple for k in (0, size(box) - 1)))

    def test_drawn_by_the_rest(self):
        for box in small_boxes()[::5]:
            houses = oracle.houses_in(box)
            for digits in DIGITS:
                rest = 0
                for digit in digits:
                    rest = (rest * 1000003 + digit) % len(houses)
                self.same(drawn(box=box, digits=digits), houses[rest])

    def test_each_rest_draws_another_house(self):
        for box in small_boxes()[::20]:
            houses = [drawn(box, (k,)) for k in range(-3, size(box) - 3)]
            self.assertEqual(sorted(houses), oracle.houses_in(box))

    def test_a_box_of_one_house(self):
        single = box_of(flat(3), (-1, 0, 1))
        self.same(nth(single, 0), (-1, 0, 1))
        self.same(rank(single, (-1, 0, 1)), 0)
        self.same(drawn(single, (-10 ** 30, 5)), (-1, 0, 1))
        self.refused("BadCount", 1, nth, single, 1)
        self.same(nth(box_of(chain(1), (-1,)), 0), (-1,))

    def test_16_places(self):
        with quick(10):
            dice = random.Random(3)
            for box in big_boxes():
                many = size(box)
                self.same(nth(box, 0), tuple(row[0] for row in box.rows))
                self.same(nth(box, many - 1), tuple(row[-1] for row in box.rows))
                for k in [0, many - 1] + [dice.randrange(many) for _ in range(20)]:
                    self.assertTrue(holds(box, nth(box, k)))
                    self.same(rank(box, nth(box, k)), k)
                for digits in DIGITS:
                    number = sum(digit * 1000003 ** at for at, digit in enumerate(reversed(digits))) % many
                    self.same(drawn(box, digits), nth(box, number))
        self.same(size(big_boxes()[0]), math.factorial(16))

    def test_refusals_of_numbers(self):
        for k in (-1, 6, 7, -6, 10 ** 40, -10 ** 40):
            self.refused("BadCount", k, nth, B, k)
        self.refused("BadCount", math.factorial(16), nth, big_boxes()[0], math.factorial(16))
        self.refused("BadCount", 0, drawn, B, ())

    def test_refusals_of_houses(self):
        self.refuses_bad_houses(lambda house: rank(B, house))
        for x, bad in ((0, (2, 0, -1)), (0, (1, 2, -1)), (1, (-1, 2, -1)), (2, (-1, -1, 0))):
            box = narrowed(B, 2, (1,)) if x == 2 else B
            self.refused("BadCount", x, rank, box, bad)
        narrow = narrowed(narrowed(B, 1, (0,)), 2, (-1, 1))
        for name, what, bad in BAD_HOUSES:
            self.refused(name, what, rank, narrow, bad)
        self.refused("BadCount", 1, rank, narrow, (-1, -1, 0))
        self.refused("BadCount", 2, rank, narrow, (-1, 0, 0))
