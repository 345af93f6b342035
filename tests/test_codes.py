"""Codes: nearlords.codes ([10])."""
import itertools

from nearlords.codes import code, house_of
from tests.base import NO_PLACES, Case, all_houses, samples


def struck(house):
    """Return the code of a house by striking its places one by one."""
    left = dict(enumerate(house))
    written = []
    while left:
        x = max(y for y in left if y not in left.values())
        written.append(left.pop(x) % (len(house) + 1))
    assert written.pop() == len(house)
    return tuple(written)


class Codes(Case):

    def test_examples(self):
        self.same(code((-1, 0, 1)), (1, 0))
        self.same(code((-1,)), ())
        self.same(house_of(3, (1, 0)), (-1, 0, 1))
        self.same(house_of(1, ()), (-1,))

    def test_each_tuple_is_the_code_of_one_house(self):
        for n in (1, 2, 3, 4, 5):
            found = {}
            for numbers in itertools.product(range(n + 1), repeat=n - 1):
                house = house_of(n, numbers)
                self.assertIs(type(house), tuple)
                self.same(code(house), numbers)
                found[house] = numbers
            self.assertEqual(sorted(found), all_houses(n))

    def test_struck_one_by_one(self):
        for house in ([house for n in (1, 2, 3, 4) for house in all_houses(n)]
                      + [house for n in (6, 10, 16) for _, house in samples(20, n)]):
            n = len(house)
            numbers = struck(house)
            self.same(code(house=house), numbers)
            self.same(house_of(n=n, numbers=numbers), house)
            for x in range(n):
                self.assertEqual(numbers.count(x), house.count(x))
            self.assertEqual(numbers.count(n), house.count(-1) - 1)

    def test_16_places(self):
        self.same(code((-1,) * 16), (16,) * 15)
        self.same(house_of(16, (16,) * 15), (-1,) * 16)
        self.same(code(tuple(range(-1, 15))), tuple(range(14, -1, -1)))
        self.same(house_of(16, (0,) * 15), (-1,) + (0,) * 15)

    def test_code_refuses_what_is_no_house(self):
        self.refused("BadSize", 0, code, ())
        self.refused("BadSize", 17, code, (-1,) * 17)
        self.refused("BadParent", 1, code, (-1, 1))
        self.refused("Round", 0, code, (1, 0))

    def test_house_of_refuses(self):
        for n in NO_PLACES + (0, -1):
            if n != 16:
                self.refused("BadSize", n, house_of, n, ())
                self.refused("BadSize", n, house_of, n, (-1, 5))
        self.refused("BadCode", 0, house_of, 2, ())
        self.refused("BadCode", 1, house_of, 1, (0,))
        self.refused("BadCode", 3, house_of, 3, (0, 0, 0))
        self.refused("BadCode", 16, house_of, 16, (0,) * 16)
        for bad in NO_PLACES + (-1, 4):
            self.refused("BadCode", (0,), house_of, 3, (bad, 0))
            self.refused("BadCode", (1,), house_of, 3, (3, bad))
            self.refused("BadCode", (0,), house_of, 3, (bad, bad))
            self.refused("BadCode", 3, house_of, 3, (bad, 0, 0))
        self.refused("BadCode", (14,), house_of, 16, (16,) * 14 + (17,))
