"""Sums, prices, draws by a table: nearlords.weights, nearlords.prices ([32])."""
import random
from collections import Counter

from nearlords.boxes import box_of, holds, size
from nearlords.boxranks import drawn, nth
from nearlords.narrow import narrowed
from nearlords.ordermakers import chain, flat
from nearlords.prices import cheapest
from nearlords.weights import drawn_by, weighed
from tests import oracle
from tests.base import ROW, Case, quick
from tests.boxcases import big_boxes, small_boxes, tables_for

B = box_of(chain(3), (-1, 0, 1))
T = ((1, 0, 0, 0), (2, 3, 0, 0), (1, 1, 1, 0))
DIGITS = ((7,), (0,), (-1,), (5, 0, -3), (0, 0, 1), (10 ** 18 + 7, -10 ** 40), (-10 ** 30,), (1, 2, 3, 4, 5, 6))


def ones(n):
    """Return the table of ones."""
    return ((1,) * (n + 1),) * n


def figures_parent(row, numbers, figure):
    """Return the first parent at which the running sum is above the figure."""
    return next(p for k, p in enumerate(row) if sum(numbers[:k + 1]) > figure)


def drawn_plainly(box, table, digits):
    """Return the house that is drawn, by the words of the document."""
    rows = [[table[x][p + 1] for p in row] for x, row in enumerate(box.rows)]
    total = 1
    for numbers in rows:
        total *= sum(numbers)
    rest = 0
    for digit in digits:
        rest = (rest * 1000003 + digit) % total
    parents = []
    for row, numbers in reversed(list(zip(box.rows, rows))):
        rest, figure = divmod(rest, sum(numbers))
        parents.insert(0, figures_parent(row, numbers, figure))
    return tuple(parents)


class Weighed(Case):

    def test_examples(self):
        self.same(weighed(B, T), 15)
        self.same(weighed(B, ones(3)), 6)
        self.same(weighed(narrowed(B, 2, (1,)), T), 5)

    def test_by_listing(self):
        dice = random.Random(60)
        for box in small_boxes():
            for table in tables_for(dice, box, 2):
                self.same(weighed(box=box, table=table), sum(w for _, w in oracle.weighed_houses(box, table)))
            self.same(weighed(box, ones(box.order.n)), size(box))

    def test_zeros(self):
        self.same(weighed(B, ((0,) * 4,) * 3), 0)
        self.same(weighed(B, (ROW, ROW, (0, 0, 0, 1))), 0)
        self.same(weighed(B, ((0, 1, 1, 1), ROW, ROW)), 0)

    def test_16_places(self):
        with quick(5):
            self.same(weighed(big_boxes()[0], ((10 ** 9,) * 17,) * 16), 20922789888000 * 10 ** 144)
            for box in big_boxes():
                self.same(weighed(box, ones(16)), size(box))


class Drawn(Case):

    def test_examples(self):
        self.same(drawn_by(B, T, (7,)), (-1, 0, 0))
        # The row (-1, 0) with the numbers 2 and 3 has the door for 0 and 1.
        box = box_of(chain(2), (-1, 0))
        found = [drawn_by(box, ((1, 0, 0), (2, 3, 0)), (k,)) for k in range(5)]
        self.assertEqual(found, [(-1, -1)] * 2 + [(-1, 0)] * 3)

    def test_each_house_as_often_as_its_product(self):
        dice = random.Random(61)
        for box in small_boxes()[::6]:
            for table in tables_for(dice, box, 2):
                table = tuple(tuple(min(number, 3) for number in row) for row in table)
                weights = dict(oracle.weighed_houses(box, table))
                if sum(weights.values()) <= 300:
                    rests = range(-7, sum(weights.values()) - 7)
                    houses = Counter(drawn_by(box=box, table=table, digits=(k,)) for k in rests)
                    self.assertEqual(houses, weights)

    def test_by_the_words(self):
        dice = random.Random(62)
        for box in small_boxes()[::2] + big_boxes():
            for table in tables_for(dice, box, 1):
                for digits in DIGITS + ((dice.randrange(10 ** 9),),):
                    self.same(drawn_by(box, table, digits), drawn_plainly(box, table, digits))

    def test_ones_draw_as_drawn(self):
        for box in small_boxes()[::5] + big_boxes():
            for digits in DIGITS:
                self.same(drawn_by(box, ones(box.order.n), digits), drawn(box, digits))

    def test_16_places(self):
        dice = random.Random(63)
        with quick(5):
            for box in big_boxes():
                for table in tables_for(dice, box, 1):
                    self.assertTrue(holds(box, drawn_by(box, table, (10 ** 200, -10 ** 200))))

    def test_refusals(self):
        self.refused("BadCount", 0, drawn_by, B, T, ())
        self.refused("BadCount", 0, drawn_by, box_of(flat(1), (-1,)), ones(1), ())
        self.refused("BadWeight", 1, drawn_by, B, (ROW, (0, 0, 1, 1), ROW), ())


class Cheapest(Case):

    def test_examples(self):
        self.same(cheapest(B, T), (4, 3, (-1, -1, -1)))
        self.same(cheapest(B, ((0,) * 4,) * 3), (0, 6, (-1, -1, -1)))
        self.same(cheapest(B, (ROW, (5, 2, 0, 0), (3, 1, 1, 0))), (4, 2, (-1, 0, 0)))
        self.same(cheapest(box_of(flat(2), (1, -1)), ((0, 0, 4), (5, 0, 0))), (9, 1, (1, -1)))

    def test_by_listing(self):
        dice = random.Random(64)
        for box in small_boxes():
            for table in tables_for(dice, box, 2):
                sums = {house: sum(table[x][p + 1] for x, p in enumerate(house)) for house in oracle.houses_in(box)}
                least = min(sums.values())
                best = [house for house, total in sums.items() if total == least]
                self.same(cheapest(box=box, table=table), (least, len(best), best[0]))

    def test_16_places(self):
        with quick(5):
            for box in big_boxes():
                self.same(cheapest(box, ones(16)), (16, size(box), nth(box, 0)))
                self.same(cheapest(box, ((10 ** 9,) * 17,) * 16)[0], 16 * 10 ** 9)
