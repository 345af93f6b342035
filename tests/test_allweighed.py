"""Sums by a table over all forms and over all houses: nearlords.allweighed ([37])."""
import random

from nearlords.allweighed import all_weighed, house_weighed
from nearlords.boxes import box_of
from nearlords.classcounts import class_count
from nearlords.housecounts import house_count
from nearlords.nthclass import nth_class
from nearlords.ordermakers import chain, flat, ranked
from nearlords.weights import weighed
from tests import oracle
from tests.base import NO_PLACES, ROW, Case, all_houses, big_orders, kinds_of_orders, quick

T = ((1, 0, 2, 3), (1, 0, 0, 4), (5, 0, 0, 0))


def some_table(dice, n, top=None):
    """Return a table for n places by chance."""
    top = top or dice.choice((1, 2, 9, 10 ** 9))
    return tuple(tuple(dice.choice((0, 1, top, dice.randint(0, top))) for _ in range(n + 1)) for _ in range(n))


def plain_sum(houses, table):
    """Return the sum over some houses of the product of the numbers of their parents."""
    total = 0
    for house in houses:
        product = 1
        for x, parent in enumerate(house):
            product *= table[x][parent + 1]
        total += product
    return total


class AllWeighed(Case):

    def test_examples(self):
        self.same(all_weighed(chain(3), T), 150)
        self.same(all_weighed(flat(2), ((1, 0, 2), (3, 4, 0))), 13)
        self.same(all_weighed(flat(1), ((7, 5),)), 7)
        self.same(all_weighed(flat(1), ((0, 5),)), 0)

    def test_by_listing(self):
        dice = random.Random(80)
        for order in kinds_of_orders():
            forms = oracle.forms_of(order, all_houses(order.n))
            for _ in range(1 if order.n > 4 else 3):
                table = some_table(dice, order.n)
                self.same(all_weighed(order=order, table=table), plain_sum(forms, table))

    def test_ones_and_zeros(self):
        for order in kinds_of_orders() + big_orders():
            n = order.n
            self.same(all_weighed(order, ((1,) * (n + 1),) * n), class_count(order))
            self.same(all_weighed(order, ((0,) * (n + 1),) * n), 0)
            self.same(all_weighed(order, ((2,) * (n + 1),) * n), class_count(order) * 2 ** n)
            self.same(all_weighed(order, ((3,) + (0,) * n,) * n), 3 ** n)

    def test_numbers_that_no_form_uses_do_not_count(self):
        self.same(all_weighed(chain(3), ((1, 9, 2, 3), (1, 9, 9, 4), (5, 9, 9, 9))), 150)

    def test_16_places(self):
        dice = random.Random(81)
        with quick(3):
            for order in big_orders():
                for _ in range(5):
                    table = some_table(dice, 16)
                    self.assertIs(type(all_weighed(order, table)), int)
        with quick(3):
            table = some_table(dice, 16, 10 ** 9)
            product = 1
            for x, row in enumerate(table):
                product *= row[0] + sum(row[x + 2:])
            self.same(all_weighed(chain(16), table), product)
            self.same(all_weighed(flat(16), ((10 ** 9,) * 17,) * 16), house_count(16) * 10 ** 144)

    def test_refusals(self):
        for order in (chain(3), flat(3), ranked((0, 0, 1))):
            self.refuses_bad_tables(lambda table: all_weighed(order, table))
        self.refused("BadPrice", 0, all_weighed, flat(1), ())
        self.refused("BadPrice", (15,), all_weighed, chain(16), ((1,) * 17,) * 15 + ((1,) * 16,))


class HouseWeighed(Case):

    def test_examples(self):
        self.same(house_weighed(2, ((1, 0, 2), (3, 4, 0))), 13)
        self.same(house_weighed(1, ((4, 9),)), 4)

    def test_by_listing(self):
        dice = random.Random(82)
        for n in range(1, 7):
            for _ in range(1 if n == 6 else 4):
                table = some_table(dice, n)
                self.same(house_weighed(n=n, table=table), plain_sum(all_houses(n), table))

    def test_weighed_over_all_classes(self):
        dice = random.Random(83)
        for order in kinds_of_orders():
            if class_count(order) <= 500:
                table = some_table(dice, order.n)
                boxes = [box_of(order, nth_class(order, k)) for k in range(class_count(order))]
                self.same(sum(weighed(box, table) for box in boxes), house_weighed(order.n, table))

    def test_16_places(self):
        with quick(3):
            for n in range(1, 17):
                self.same(house_weighed(n, ((1,) * (n + 1),) * n), house_count(n))
                self.same(house_weighed(n, ((10 ** 9,) * (n + 1),) * n), house_count(n) * 10 ** (9 * n))

    def test_refusals(self):
        self.refuses_bad_tables(lambda table: house_weighed(3, table))
        for n in NO_PLACES[:3] + (0, 17, 18, 10 ** 40):
            for table in ((), (ROW,) * 3, ((-1,),) * 17):
                self.refused("BadSize", n, house_weighed, n, table)
