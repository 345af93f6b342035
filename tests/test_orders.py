"""Orders: nearlords.orders ([4])."""
import itertools
import random

from nearlords.ordermakers import chain, flat
from nearlords.orders import Order, closed_order, is_order, less, made_order
from tests.base import NO_PLACES, Case, all_orders, pairs_of, quick, samples


def subsets(n):
    """Return all tuples of different pairs of places."""
    every = [(x, y) for x in range(n) for y in range(n) if x != y]
    return [tuple(pair for k, pair in enumerate(every) if mask >> k & 1) for mask in range(1 << len(every))]


def missing(pairs):
    """Return the least pair that is missing among pairs, or None."""
    found = [(x, z) for x, y in pairs for w, z in pairs if y == w and (x, z) not in pairs]
    return min(found, default=None)


def closure(pairs):
    """Return the set of the pairs and all that follow."""
    pairs = set(pairs)
    while True:
        more = {(x, z) for x, y in pairs for w, z in pairs if y == w} - pairs
        if not more:
            return pairs
        pairs |= more


class MadeOrders(Case):

    def test_attributes(self):
        order = made_order(3, ((2, 0),))
        self.assertIs(type(order), Order)
        self.same(order.n, 3)
        self.same(order.lesser, ((2,), (), ()))
        order = made_order(n=4, pairs=((3, 1), (0, 1), (2, 1), (3, 1), (0, 1)))
        self.same(order.n, 4)
        self.same(order.lesser, ((), (0, 2, 3), (), ()))

    def test_all_sets_of_pairs_of_up_to_4_places(self):
        for n in (1, 2, 3, 4):
            for pairs in subsets(n):
                bad = missing(pairs)
                self.same(is_order(n, pairs), bad is None)
                if bad is not None:
                    self.refused("NotOrder", bad, made_order, n, pairs)
                else:
                    order = made_order(n, pairs)
                    self.assertEqual(order.n, n)
                    self.assertEqual(pairs_of(order), set(pairs))
                    self.assertTrue(all(type(row) is tuple and list(row) == sorted(set(row)) for row in order.lesser))

    def test_how_many_orders_there_are(self):
        self.assertEqual([len(all_orders(n)) for n in (1, 2, 3, 4)], [1, 3, 19, 219])

    def test_pairs_in_any_order_and_told_twice(self):
        pairs = ((0, 1), (0, 2), (1, 2))
        for some in itertools.permutations(pairs + ((0, 2),)):
            self.assertTrue(made_order(3, some) == chain(3))
            self.assertTrue(closed_order(3, some) == chain(3))
            self.assertIs(is_order(3, some), True)
        dice = random.Random(1)
        pairs = [(x, y) for y in range(16) for x in range(y)] * 20
        dice.shuffle(pairs)
        with quick(5):
            self.assertTrue(made_order(16, tuple(pairs)) == chain(16))

    def test_least_missing_pair(self):
        self.refused("NotOrder", (0, 2), made_order, 3, ((0, 1), (1, 2)))
        self.refused("NotOrder", (0, 0), made_order, 2, ((0, 1), (1, 0)))
        self.refused("NotOrder", (1, 1), made_order, 3, ((2, 1), (1, 2)))
        self.refused("NotOrder", (0, 3), made_order, 4, ((1, 0), (2, 3), (0, 2)))
        self.refused("NotOrder", (13, 15), made_order, 16, ((14, 15), (13, 14)))

    def test_bad_pairs(self):
        for make in (made_order, closed_order):
            self.refused("BadPair", 0, make, 3, ((1, 1),))
            self.refused("BadPair", 1, make, 3, ((0, 1), (2, 3), (1, 1)))
            self.refused("BadPair", 2, make, 3, ((0, 1), (0, 2), (-1, 0)))
            self.refused("BadPair", 0, make, 1, ((0, 1),))
            self.refused("BadPair", 0, make, 1, ((0, 0),))
            for bad in NO_PLACES + (-1,):
                self.refused("BadPair", 1, make, 16, ((0, 1), (bad, 2)))
                self.refused("BadPair", 1, make, 16, ((0, 1), (2, bad)))
                self.refused("BadPair", 0, make, 16, ((bad, bad),))

    def test_bad_sizes(self):
        for make in (made_order, closed_order):
            for n in NO_PLACES + (0, -1):
                if n != 16:
                    self.refused("BadSize", n, make, n, ())
                    self.refused("BadSize", n, make, n, ((0, 0), (1, 2)))
            for n in range(1, 17):
                self.assertTrue(make(n, ()) == flat(n))

    def test_order_of_the_checks(self):
        self.refused("BadPair", 2, made_order, 3, ((0, 1), (1, 2), (0, 3)))
        self.refused("BadPair", 2, closed_order, 3, ((0, 1), (1, 0), (0, 3)))
        self.refused("BadSize", 0, closed_order, 0, ((0, 1), (1, 0)))


class ClosedOrders(Case):

    def test_all_sets_of_pairs_of_up_to_4_places(self):
        for n in (1, 2, 3, 4):
            for pairs in subsets(n):
                closed = closure(pairs)
                rounds = [x for x in range(n) if (x, x) in closed]
                if rounds:
                    self.refused("Round", rounds[0], closed_order, n, pairs)
                else:
                    order = closed_order(n, pairs)
                    self.assertIs(type(order), Order)
                    self.assertTrue(order == made_order(n, tuple(closed)))

    def test_16_places(self):
        self.assertTrue(closed_order(16, tuple((x, x + 1) for x in range(15))) == chain(16))
        backward = tuple((x + 1, x) for x in range(15))
        self.same(closed_order(n=16, pairs=backward).lesser[14], (15,))
        self.same(closed_order(16, backward).lesser[0], tuple(range(1, 16)))
        self.refused("Round", 7, closed_order, 16, tuple((x, x + 1) for x in range(7, 15)) + ((15, 7), (3, 7)))


class Equality(Case):

    def test_equal_just_if_n_and_lesser_are(self):
        orders = [order for n in (1, 2, 3) for order in all_orders(n)]
        for j, one in enumerate(orders):
            for k, two in enumerate(orders):
                self.assertIs(one == two, j == k)
                self.assertIs(one == made_order(two.n, tuple(pairs_of(two))), j == k)
        self.assertFalse(flat(2) == flat(3))
        self.assertTrue(flat(3) != flat(4))


class Less(Case):

    def test_less(self):
        for order in all_orders(3) + [order for order, _ in samples(4, 16)]:
            for x in range(order.n):
                for y in range(order.n):
                    self.same(less(order, x, y), (x, y) in pairs_of(order))
        self.assertIs(less(order=chain(2), y=1, x=0), True)

    def test_no_places(self):
        for bad in NO_PLACES + (-1, 3):
            self.refused("BadPlace", bad, less, chain(3), bad, 0)
            self.refused("BadPlace", bad, less, chain(3), 0, bad)
            self.refused("BadPlace", bad, less, chain(3), bad, 99)
        self.refused("BadPlace", 1, less, flat(1), 1, 0)


class Judge(Case):

    def test_other_forms(self):
        self.no_judge_raises(is_order, (0,), [3, ((0, 1),)])
        for odd in ((0,), (0, 1), ((0,),), ((0, 1, 2),), ((0, 1), 2), ((0, "1"),), (("0", 1),), ("01",), ("ab",), "",
                    "ab", 0, 3, ((),), (((0, 1),),), ((0, (1,)),), (((0,), 1),), ((0, 1), ()), ((0, 1), ""),
                    ((0, 1), "01"), ((0, 1), (0, 1, 2)), ((0, 10 ** 40),), ((-1, 0),), ((1, 1),), ((0, 3),)):
            self.same(is_order(3, odd), False)
        for n in ("3", "", (), (3,), ((),), 0, 17, -1, 10 ** 40):
            self.same(is_order(n, ()), False)
            self.same(is_order(n, ((0, 1),)), False)
            self.same(is_order(n, "ab"), False)

    def test_right_ones(self):
        for n in range(1, 17):
            self.same(is_order(n, ()), True)
        self.same(is_order(n=2, pairs=((1, 0), (1, 0))), True)
        self.same(is_order(3, ((0, 1), (1, 2))), False)
        self.same(is_order(3, ((0, 1), (1, 2), (0, 2))), True)
        with quick(5):
            self.same(is_order(16, ((0, 1),) * 3333), True)
            self.same(is_order(16, ((0, 1),) * 3330 + ((0,),)), False)
