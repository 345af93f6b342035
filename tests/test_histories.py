"""Histories: nearlords.histories ([40.4])."""
import random

from nearlords.histories import deeds_between, history_right, shortened
from nearlords.ordermakers import chain, flat, ranked
from tests import oracle
from tests.base import BAD_HOUSES, ODD_THINGS, Case, all_houses, all_orders, big_orders, nested, quick, samples

HOUSE = (-1, 0, 1)
WALK = (HOUSE, (-1, -1, 1), (-1, -1, -1))


def drawn_history(dice, order, house, many):
    """Return a history of so many houses by chance, shorter where no deed is let, and its run."""
    houses = [house]
    run = []
    while len(houses) < many and oracle.lets(order, houses[-1]):
        run.append(dice.choice(oracle.lets(order, houses[-1])))
        houses.append(oracle.after(houses[-1], run[-1]))
    return tuple(houses), tuple(run)


def drawn_histories():
    """Return orders with histories and their runs, of 1 to 6 places and of 16."""
    dice = random.Random(130)
    found = []
    for n, many in ((1, 2), (2, 6), (3, 20), (4, 20), (5, 20), (6, 20), (16, 6)):
        for order, house in samples(many, n, seed=14):
            found.append((order, *drawn_history(dice, order, house, dice.choice((1, 2, 9, 40)))))
    return found


def short_way(houses):
    """Return a history without what lies between equal houses."""
    houses = list(houses)
    found = []
    while houses:
        found.append(houses[0])
        while found[-1] in houses:
            houses.pop(0)
    return tuple(found)


class Deeds(Case):

    def test_examples(self):
        self.same(deeds_between(chain(3), WALK), (("up", 1), ("up", 2)))
        self.same(deeds_between(chain(3), (HOUSE,)), ())
        self.same(deeds_between(flat(1), ((-1,),)), ())
        self.refused("BadRow", 0, deeds_between, chain(3), (HOUSE, HOUSE))

    def test_all_steps_of_small_orders(self):
        for n in (1, 2, 3):
            for order in all_orders(n):
                for one in all_houses(n):
                    made = {oracle.after(one, deed): deed for deed in oracle.lets(order, one)}
                    self.assertEqual(len(made), len(oracle.lets(order, one)))
                    for two in all_houses(n):
                        if two in made:
                            self.same(deeds_between(order=order, houses=(one, two)), (made[two],))
                            self.same(history_right(order, (one, two)), True)
                        else:
                            self.refused("BadRow", 0, deeds_between, order, (one, two))
                            self.same(history_right(order, (one, two)), False)

    def test_drawn_runs(self):
        for order, houses, run in drawn_histories():
            self.same(deeds_between(order, houses), run)
            self.same(history_right(order=order, houses=houses), True)

    def test_300_houses(self):
        dice = random.Random(131)
        with quick(5):
            for order in (chain(16), big_orders()[2], chain(3), ranked((0, 0, 1))):
                start = tuple(range(-1, order.n - 1)) if order.n == 16 else HOUSE
                houses, run = drawn_history(dice, order, start, 301)
                self.assertEqual(len(houses), 301)
                self.same(deeds_between(order, houses[:300]), run[:299])
                self.same(history_right(order, houses[:300]), True)
                self.refused("TooMany", 301, deeds_between, order, houses)
                self.refused("TooMany", 301, shortened, order, houses)
                self.same(history_right(order, houses), False)


class Faults(Case):

    def each(self, name, what, order, houses):
        """Assert that both functions refuse what is no history, and the judge says so."""
        self.refused(name, what, deeds_between, order, houses)
        self.refused(name, what, shortened, order=order, houses=houses)
        self.same(history_right(order, houses), False)

    def test_each_alone(self):
        self.each("TooMany", 301, chain(3), (HOUSE,) * 301)
        self.each("BadCount", 0, chain(3), ())
        for name, what, bad in BAD_HOUSES:
            self.each(name, what, chain(3), (bad,))
            self.each(name, what, chain(3), WALK + (bad,))
            self.each(name, what, chain(3), (bad,) + WALK)
        self.each("BadRow", 0, chain(3), (HOUSE, HOUSE))
        self.each("BadRow", 2, chain(3), WALK + (HOUSE,))
        self.each("BadRow", 0, chain(3), (HOUSE, (-1, -1, -1)))
        self.each("BadRow", 1, chain(3), (WALK[0], WALK[1], WALK[1], WALK[2]))
        self.each("BadRow", 0, flat(3), WALK)
        self.each("BadRow", 1, ranked((0, 1, 0)), WALK)

    def test_two_at_once(self):
        for name, what, bad in BAD_HOUSES:
            self.each("TooMany", 400, chain(3), (bad,) * 400)
            # All houses are looked at before any step is.
            self.each(name, what, chain(3), (HOUSE, HOUSE, bad))
            for _, _, worse in BAD_HOUSES[::3]:
                self.each(name, what, chain(3), (HOUSE, bad, worse))
        self.each("BadRow", 2, chain(3), (*WALK[:2], HOUSE, HOUSE, (-1, -1, -1)))

    def test_the_judge_at_things_of_other_forms(self):
        for odd in ODD_THINGS + (nested(50),):
            self.same(history_right(chain(3), odd), odd == (HOUSE,))
            self.same(history_right(chain(3), (odd,)), False)
            self.same(history_right(chain(3), WALK + (odd,)), False)
        for good in (WALK, (HOUSE,), ((-1, 2, -1),)):
            self.same(history_right(chain(3), good), True)
        self.same(history_right(chain(3), ((),) * 5000), False)
        self.same(history_right(chain(3), HOUSE), False)


class Shortened(Case):

    def test_examples(self):
        self.same(shortened(chain(3), (HOUSE, (-1, -1, 1), HOUSE, (-1, 0, 0))), (HOUSE, (-1, 0, 0)))
        self.same(shortened(chain(3), (HOUSE,)), (HOUSE,))
        self.same(shortened(chain(3), WALK), WALK)
        self.same(shortened(chain(3), WALK + WALK[1::-1]), (HOUSE,))

    def test_drawn_runs(self):
        for order, houses, _ in drawn_histories():
            found = shortened(order, houses)
            self.same(found, short_way(houses))
            self.assertEqual((found[0], found[-1]), (houses[0], houses[-1]))
            self.assertEqual(len(set(found)), len(found))
            self.same(history_right(order, found), True)

    def test_the_same_house_again_and_again(self):
        dice = random.Random(132)
        cut = 0
        for order in (chain(2), chain(3), ranked((0, 0, 1)), ranked((0, 1, 1, 2))):
            for many in (2, 3, 5, 8, 13, 21, 300):
                houses, _ = drawn_history(dice, order, tuple(range(-1, order.n - 1)), many)
                found = shortened(order, houses)
                self.same(found, short_way(houses))
                cut += len(found) < len(houses)
        self.assertGreater(cut, 10)
