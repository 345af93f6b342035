"""Houses: nearlords.houses ([8])."""
import itertools

from nearlords.houses import is_house, made_house
from tests.base import NO_PLACES, Case, all_houses, climbs_out, quick, samples


class Houses(Case):

    def test_all_tuples_of_up_to_4_numbers(self):
        for n in (1, 2, 3, 4):
            for parents in itertools.product(range(-2, n + 1), repeat=n):
                bad = [x for x in range(n) if parents[x] in (x, -2, n)]
                rounds = [x for x in range(n) if not bad and not self.comes_out(parents, x)]
                self.same(is_house(parents), not bad and not rounds)
                if bad:
                    self.refused("BadParent", bad[0], made_house, parents)
                elif rounds:
                    self.refused("Round", rounds[0], made_house, parents)
                else:
                    self.same(made_house(parents), parents)

    def comes_out(self, parents, x):
        for _ in range(len(parents) + 1):
            x = parents[x] if x != -1 else -1
        return x == -1

    def test_how_many_there_are(self):
        self.assertEqual([len(all_houses(n)) for n in (1, 2, 3, 4, 5)], [1, 3, 16, 125, 1296])
        self.assertTrue(all(climbs_out(house) for house in all_houses(3)))

    def test_16_places(self):
        line = tuple(range(-1, 15))
        back = tuple(range(1, 16)) + (-1,)
        for house in [line, back, (-1,) * 16] + [house for _, house in samples(20, 16)]:
            self.same(made_house(parents=house), house)
            self.same(is_house(thing=house), True)
        self.refused("Round", 0, made_house, tuple(range(1, 16)) + (0,))
        self.refused("Round", 14, made_house, (-1,) * 14 + (15, 14))
        self.refused("Round", 3, made_house, (-1,) * 3 + (15,) + (-1,) * 10 + (15, 14))

    def test_bad_sizes(self):
        self.refused("BadSize", 0, made_house, ())
        self.refused("BadSize", 17, made_house, (-1,) * 17)
        self.refused("BadSize", 500, made_house, (-1,) * 500)
        self.same(made_house((-1,)), (-1,))

    def test_bad_parents(self):
        for bad in NO_PLACES:
            self.refused("BadParent", 1, made_house, (-1, bad) + (-1,) * 14)
            self.refused("BadParent", 15, made_house, (-1,) * 15 + (bad,))
            self.refused("BadParent", 0, made_house, (bad,))
        self.refused("BadParent", 0, made_house, (0,))
        self.refused("BadParent", 2, made_house, (-1, -1, 2, 9))

    def test_order_of_the_checks(self):
        self.refused("BadSize", 17, made_house, (0,) * 17)
        self.refused("BadParent", 2, made_house, (1, 0, 2))
        self.refused("BadParent", 2, made_house, (1, 0, 7, 8))

    def test_judge(self):
        self.no_judge_raises(is_house, (), [(-1, 0)])
        for odd in ("", "-1", (), ("-1",), (-1, "0"), ((-1,),), ((),), 0, -1, 10 ** 40, (-1, (0,)), (0,), (1, 0),
                    (-1,) * 17, (-1,) * 9000, (10 ** 40,), (-1, -2), ((-1, 0),), ("a",) * 3, ((-1, 0), (-1, 0))):
            self.same(is_house(odd), False)
        with quick(5):
            self.same(is_house((0,) * 10000), False)
            self.same(is_house(("x" * 1000,) * 9000), False)
