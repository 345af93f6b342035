"""Making orders: nearlords.ordermakers ([5])."""
import itertools
import random

from nearlords.ordermakers import chain, dividing, flat, ranked, setwise
from nearlords.orders import Order
from tests.base import Case, pairs_of, quick


class Makers(Case):

    def compares(self, order, things, is_less):
        """Assert that the places compare as the things do."""
        n = len(things)
        self.assertIs(type(order), Order)
        self.same(order.n, n)
        expected = tuple(tuple(x for x in range(n) if is_less(things[x], things[y])) for y in range(n))
        self.same(order.lesser, expected)
        for row in order.lesser:
            self.assertIs(type(row), tuple)

    def test_chain_and_flat(self):
        for n in range(1, 17):
            self.compares(chain(n), range(n), lambda a, b: a < b)
            self.compares(flat(n), range(n), lambda a, b: False)
        self.same(chain(n=3).lesser, ((), (0,), (0, 1)))
        self.same(flat(n=3).lesser, ((), (), ()))

    def test_bad_sizes(self):
        for n in (0, -1, 17, 10 ** 20, -10 ** 20):
            self.refused("BadSize", n, chain, n)
            self.refused("BadSize", n, flat, n)
        for many in (0, 17, 40):
            self.refused("BadSize", many, ranked, (1,) * many)
            self.refused("BadSize", many, dividing, (1,) * many)
            self.refused("BadSize", many, setwise, ((1,),) * many)

    def test_ranked(self):
        for n in (1, 2, 3, 4):
            for numbers in itertools.product((-1, 0, 1, 5), repeat=n):
                self.compares(ranked(numbers), numbers, lambda a, b: a < b)
        dice = random.Random(6)
        for numbers in ((10 ** 30, -10 ** 30, 10 ** 30, 10 ** 30 + 1), tuple(dice.randrange(9) for _ in range(16)),
                        (0,) * 16, tuple(range(15, -1, -1))):
            self.compares(ranked(numbers=numbers), numbers, lambda a, b: a < b)
        self.assertEqual(pairs_of(ranked((0, 0, 1))), {(0, 2), (1, 2)})

    def test_dividing(self):
        for numbers in itertools.product((1, 2, 3, 4, 6, 12), repeat=3):
            self.compares(dividing(numbers), numbers, lambda a, b: a != b and b % a == 0)
        for numbers in (tuple(range(1, 17)), (1,), (7 * 10 ** 40, 10 ** 40, 7, 2 ** 40), (5,) * 16):
            self.compares(dividing(numbers=numbers), numbers, lambda a, b: a != b and b % a == 0)

    def test_dividing_refuses_numbers_below_1(self):
        for bad in (0, -1, -6, -10 ** 30):
            self.refused("BadRank", 0, dividing, (bad,))
            self.refused("BadRank", 1, dividing, (1, bad, 2))
            self.refused("BadRank", 1, dividing, (1, bad, bad))
            self.refused("BadRank", 15, dividing, (6,) * 15 + (bad,))
            self.refused("BadSize", 17, dividing, (bad,) * 17)

    def test_setwise(self):
        rows = tuple(row for many in range(4) for row in itertools.combinations((-5, 0, 10 ** 30), many))
        for some in itertools.product(rows, repeat=3):
            self.compares(setwise(some), some, lambda a, b: set(a) < set(b))
        dice = random.Random(7)
        some = tuple(tuple(sorted(dice.sample(range(-3, 3), dice.randrange(7)))) for _ in range(16))
        self.compares(setwise(rows=some), some, lambda a, b: set(a) < set(b))
        self.same(setwise(((),)).lesser, ((),))
        self.same(setwise(((), ())).lesser, ((), ()))

    def test_setwise_of_long_rows(self):
        rows = tuple(tuple(range(k, 20000)) for k in range(16))
        with quick(10):
            self.same(setwise(rows).lesser[0], tuple(range(1, 16)))

    def test_setwise_refuses_rows_that_do_not_ascend(self):
        for bad in ((1, 1), (2, 1), (0, 1, 1), (0, 5, 4), (3, 2, 1)):
            self.refused("BadRank", 0, setwise, (bad,))
            self.refused("BadRank", 2, setwise, ((), (1, 2), bad, bad))
            self.refused("BadSize", 17, setwise, (bad,) * 17)
