"""Orders that change: nearlords.orderchanges ([40.3])."""
import random

from nearlords.classcounts import class_count
from nearlords.joined import joined
from nearlords.orderchanges import changed, covers, grown, parted_forms, shrunk
from nearlords.orderjoins import met, side
from nearlords.ordermakers import chain, dividing, flat, ranked
from nearlords.orders import Order, made_order
from tests import oracle
from tests.base import (
    NO_PLACES, Case, all_houses, all_orders, big_orders, kinds_of_orders, pairs_of, pairs_of_orders, quick, samples,
    some_house,
)

RANKS = ranked((0, 0, 1))


def covers_of(order):
    """Return the covers of an order, ascending."""
    pairs = pairs_of(order)
    return tuple(sorted((x, y) for x, y in pairs if not any((x, z) in pairs and (z, y) in pairs
                                                            for z in range(order.n))))


def many_orders():
    """Return orders of 1 to 6 places and of 16."""
    return kinds_of_orders() + all_orders(4)[::5] + big_orders()


def places_of(order):
    """Return all pairs of places, some of them for many places."""
    return [(x, y) for x in range(order.n) for y in range(0, order.n, 1 + order.n // 6)]


class Covers(Case):

    def test_examples(self):
        self.same(covers(chain(3)), ((0, 1), (1, 2)))
        self.same(covers(flat(3)), ())
        self.same(covers(flat(1)), ())
        self.same(covers(RANKS), ((0, 2), (1, 2)))
        self.same(covers(dividing((12, 1, 2, 3, 6))), ((1, 2), (1, 3), (2, 4), (3, 4), (4, 0)))
        self.same(covers(order=chain(16)), tuple((x, x + 1) for x in range(15)))

    def test_by_pairs(self):
        with quick(5):
            for order in many_orders():
                self.same(covers(order), covers_of(order))


class Grown(Case):

    def test_examples(self):
        self.assertTrue(grown(RANKS, 0, 1) == chain(3))
        self.assertTrue(grown(chain(3), 0, 2) == chain(3))
        self.same(grown(flat(3), 2, 0).lesser, ((2,), (), ()))
        self.same(grown(made_order(4, ((0, 1), (2, 3))), 1, 2).lesser, ((), (0,), (0, 1), (0, 1, 2)))

    def test_by_pairs(self):
        for order in many_orders():
            pairs = pairs_of(order)
            for x, y in places_of(order):
                if x == y or (y, x) in pairs:
                    self.refused("Round", x, grown, order, x, y)
                    continue
                found = grown(order=order, x=x, y=y)
                self.assertIs(type(found), Order)
                told = {(a, b) for a in range(order.n) for b in range(order.n)
                        if (a == x or (a, x) in pairs) and (b == y or (y, b) in pairs)}
                self.assertEqual(pairs_of(found), pairs | told)
                self.same(found.lesser, tuple(tuple(sorted(row)) for row in found.lesser))
                self.assertTrue(found == made_order(order.n, tuple(pairs_of(found))))
                if order.n <= 4:
                    self.assertEqual(pairs_of(found), oracle.closed(pairs | {(x, y)}))
                if (x, y) in pairs:
                    self.assertTrue(found == order)

    def test_the_order_handed_in_does_not_change(self):
        order = made_order(3, ((0, 1),))
        grown(order, 1, 2)
        self.same(order.lesser, ((), (0,), ()))

    def test_each_order_grows_along_its_covers(self):
        dice = random.Random(120)
        for order in many_orders():
            for _ in range(3):
                row = list(covers(order))
                dice.shuffle(row)
                found = flat(order.n)
                for x, y in row:
                    found = grown(found, x, y)
                self.assertTrue(found == order)

    def test_lords_change_at_y_and_above_alone(self):
        dice = random.Random(121)
        for order in many_orders():
            for x, y in places_of(order)[::3]:
                if x != y and (y, x) not in pairs_of(order):
                    after = grown(order, x, y)
                    for _ in range(3):
                        house = some_house(dice, order.n)
                        self.assertLessEqual(set(changed(order, after, house)),
                                             {z for z in range(order.n) if z == y or (y, z) in pairs_of(order)})

    def test_joined_houses_stay_joined(self):
        for order in all_orders(3):
            for x, y in places_of(order):
                if x != y and (y, x) not in pairs_of(order):
                    after = grown(order, x, y)
                    for house in all_houses(3):
                        for other in all_houses(3):
                            if oracle.lords_of(order, house) == oracle.lords_of(order, other):
                                self.assertTrue(joined(after, house, other))

    def test_refusals(self):
        for x in NO_PLACES + (-1, 3):
            for order in (chain(3), flat(3)):
                for y in (0, 2, 3, x):
                    self.refused("BadPlace", x, grown, order, x, y)
                for good in (0, 2):
                    self.refused("BadPlace", x, grown, order, good, x)
        for x, y in ((0, 0), (1, 0), (2, 0), (2, 1), (2, 2)):
            self.refused("Round", x, grown, chain(3), x, y)
        self.refused("Round", 0, grown, flat(1), 0, 0)
        self.refused("Round", 15, grown, chain(16), 15, 0)


class Shrunk(Case):

    def test_examples(self):
        self.assertTrue(shrunk(chain(3), 0, 1) == RANKS)
        self.assertTrue(shrunk(order=chain(2), x=0, y=1) == flat(2))

    def test_by_pairs(self):
        for order in many_orders():
            found = covers_of(order)
            for x, y in places_of(order):
                if (x, y) not in found:
                    self.refused("BadPair", 0, shrunk, order, x, y)
                    continue
                less = shrunk(order=order, x=x, y=y)
                self.assertIs(type(less), Order)
                self.assertEqual(pairs_of(less), pairs_of(order) - {(x, y)})
                self.assertTrue(less == made_order(order.n, tuple(pairs_of(less))))
                self.assertTrue(grown(less, x, y) == order)

    def test_the_order_handed_in_does_not_change(self):
        order = chain(3)
        shrunk(order, 1, 2)
        self.same(order.lesser, ((), (0,), (0, 1)))

    def test_classes_are_parted_and_never_joined(self):
        for order in all_orders(3):
            for x, y in covers(order):
                less = shrunk(order, x, y)
                self.assertGreater(class_count(less), class_count(order))
                for house in all_houses(3):
                    for other in all_houses(3):
                        if oracle.lords_of(less, house) == oracle.lords_of(less, other):
                            self.assertTrue(joined(order, house, other))

    def test_refusals(self):
        for x in NO_PLACES + (-1, 3):
            for order in (chain(3), flat(3)):
                for y in (0, 2, 3, x):
                    self.refused("BadPlace", x, shrunk, order, x, y)
                for good in (0, 2):
                    self.refused("BadPlace", x, shrunk, order, good, x)
        for x, y in ((0, 2), (0, 0), (1, 0), (2, 1)):
            self.refused("BadPair", 0, shrunk, chain(3), x, y)
        self.refused("BadPair", 0, shrunk, RANKS, 0, 1)
        self.refused("BadPair", 0, shrunk, flat(1), 0, 0)


class Changed(Case):

    def test_examples(self):
        self.same(changed(chain(3), flat(3), (-1, 0, 1)), (1, 2))
        self.same(changed(chain(3), chain(3), (-1, 0, 1)), ())
        self.same(changed(flat(1), chain(1), (-1,)), ())

    def test_by_lords(self):
        for n in (1, 2, 3):
            for house in all_houses(n):
                for order in all_orders(n):
                    self.check(order, all_orders(n), house)
        for n, many in ((4, 30), (6, 30), (16, 10)):
            found = samples(many, n, seed=13)
            for order, house in found:
                self.check(order, [other for other, _ in found[::5]], house)

    def check(self, order, others, house):
        lords = oracle.lords_of(order, house)
        for other in others:
            two = oracle.lords_of(other, house)
            self.same(changed(order=order, other=other, house=house),
                      tuple(x for x in range(order.n) if lords[x] != two[x]))

    def test_refusals(self):
        self.refuses_bad_houses(lambda house: changed(chain(3), flat(3), house))
        self.refuses_bad_houses(lambda house: changed(house=house, other=chain(3), order=chain(3)))
        for n in (1, 2, 4, 16):
            for house in ((-1, 0, 1), (-1,) * n, (), (1, 0, -1)):
                self.refused("Unlike", n, changed, chain(3), flat(n), house)


class PartedForms(Case):

    def test_examples(self):
        self.same(parted_forms(chain(3), RANKS, (-1, 0, 1)), ((-1, -1, -1), (-1, 0, -1)))
        self.same(parted_forms(chain(3), chain(3), (-1, 0, 1)), ((-1, -1, -1),))
        self.same(parted_forms(flat(1), flat(1), (-1,)), ((-1,),))

    def test_by_listing(self):
        dice = random.Random(122)
        for order, under in pairs_of_orders():
            for house in (some_house(dice, order.n), tuple(range(-1, order.n - 1))):
                houses = sorted(oracle.class_of(order, house)) if order.n <= 5 else None
                if houses is not None:
                    found = parted_forms(order=order, under=under, house=house)
                    self.same(found, tuple(oracle.forms_of(under, houses)))
                    self.assertEqual(set(found), {oracle.lords_of(under, one) for one in houses})

    def test_2000_and_more(self):
        # Three places are greater than four others each, and four than one each: 5 ** 3 * 2 ** 4.
        fives = ranked((0, 0, 0, 0, 1, 1, 1))
        twos = side(side(chain(2), chain(2)), side(chain(2), chain(2)))
        order = side(fives, twos)
        with quick(5):
            found = parted_forms(order, flat(15), (-1,) * 15)
        self.assertEqual((len(found), len(set(found))), (2000, 2000))
        self.assertEqual(found, tuple(sorted(found)))
        self.assertEqual(oracle.forms_of(flat(15), found), list(found))
        # Places greater than seven, six, five and five others: 8 * 7 * 6 * 6.
        more = ((7, 7), (8, 6), (9, 5), (10, 5))
        order = made_order(11, tuple((x, y) for y, many in more for x in range(many)))
        self.refused("TooMany", 2016, parted_forms, order, flat(11), (-1,) * 11)
        self.refused("TooMany", 20922789888000, parted_forms, chain(16), flat(16), (-1,) * 16)

    def test_16_places(self):
        dice = random.Random(123)
        with quick(5):
            for order in big_orders():
                house = some_house(dice, 16)
                self.same(parted_forms(order, order, house), (oracle.lords_of(order, house),))
            # A class of 16! houses may have few forms of another order.
            for order in big_orders()[3:]:
                under = met(order, chain(16))
                many = 1
                for x in range(16):
                    many *= 1 + x - len(under.lesser[x])
                if many > 2000:
                    self.refused("TooMany", many, parted_forms, chain(16), under, (-1,) * 16)
        found = parted_forms(chain(16), shrunk(chain(16), 14, 15), (-1,) * 16)
        self.same(found, ((-1,) * 16, (-1,) * 15 + (14,)))

    def test_refusals(self):
        for under in (RANKS, flat(3), chain(4), chain(16), made_order(3, ((2, 0),))):
            self.refuses_bad_houses(lambda house: parted_forms(chain(3), under, house))
            self.refuses_bad_houses(lambda house: parted_forms(house=house, order=flat(3), under=under))
        for n in (1, 2, 4, 16):
            self.refused("Unlike", n, parted_forms, chain(3), chain(n), (-1, 0, 1))
        self.refused("Unlike", 3, parted_forms, chain(16), flat(3), (-1,) * 16)
        for one in all_orders(3)[::2]:
            for two in all_orders(3):
                pair = min(pairs_of(two) - pairs_of(one), default=None)
                if pair is not None:
                    self.refused("NotOrder", pair, parted_forms, one, two, (-1, 0, 1))
        big = ranked((0,) * 8 + (1,) * 8)
        self.refused("NotOrder", (0, 1), parted_forms, big, chain(16), (-1,) * 16)
        self.refused("TooMany", 9 ** 8, parted_forms, big, flat(16), (-1,) * 16)
