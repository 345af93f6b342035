"""Nearest runs: nearlords.nearest, nearlords.oneplace ([26])."""
import random

from nearlords.boxes import box_of, size
from nearlords.boxranks import nth
from nearlords.climbcounts import fewest_ups
from nearlords.climbed import climbed
from nearlords.nearest import balls, class_of, fewest, nearest_run
from nearlords.oneplace import apart, one_apart
from nearlords.orderjoins import side
from nearlords.ordermakers import chain, flat, ranked
from tests import oracle
from tests.base import BAD_HOUSES, Case, all_houses, all_orders, quick, samples
from tests.boxcases import big_boxes
from tests.test_deeds import cases


def orders():
    """Return all orders of up to 3 places and some of 4."""
    return all_orders(1) + all_orders(2) + all_orders(3) + all_orders(4)[::30] + [chain(4)]


class Class(Case):

    def test_all_houses_ascending(self):
        for order in orders():
            for house, others in oracle.classes(order, all_houses(order.n)).items():
                self.same(class_of(order=order, house=house), tuple(sorted(others)))
        for order, house in samples(10, 6):
            self.same(class_of(order, house), tuple(sorted(oracle.class_of(order, house))))
        self.same(class_of(flat(16), tuple(range(-1, 15))), (tuple(range(-1, 15)),))

    def test_refusals(self):
        for call in (class_of, balls):
            self.refuses_bad_houses(lambda house: call(chain(3), house))


class Fewest(Case):

    def test_examples(self):
        self.same(fewest(chain(4), (-1, 0, 1, 2), (-1, 0, 1, 0)), 2)
        order, house = ranked((3, 2, 0, 1, 4)), (2, -1, 3, 1, 2)
        self.assertEqual(climbed(order, house), (-1, -1, 3, 1, -1))
        self.assertEqual(fewest_ups(order, house), 6)
        self.same(fewest(order, house, climbed(order, house)), 5)

    def test_by_search(self):
        for order in orders():
            for one in all_houses(order.n):
                far = oracle.distances(order, one)
                for two, many in far.items():
                    self.same(fewest(order=order, one=one, two=two), many)
                    self.check(order, one, two, many)
                self.same(balls(order=order, house=one), self.counted(far))
        for order, house in samples(12, 5) + samples(12, 6):
            far = oracle.distances(order, house)
            self.same(balls(order, house), self.counted(far))
            for two in random.Random(1).sample(sorted(far), min(len(far), 10)):
                self.check(order, house, two, far[two])

    def counted(self, far):
        return tuple(list(far.values()).count(k) for k in range(max(far.values()) + 1))

    def check(self, order, one, two, many):
        run = nearest_run(order=order, one=one, two=two)
        self.assertIs(type(run), tuple)
        self.assertEqual(len(run), many)
        self.assertEqual(oracle.walk(order, one, run), two)
        self.assertTrue(all(type(deed) is tuple for deed in run))

    def test_bounds(self):
        dice = random.Random(2)
        for order, house in cases():
            box = box_of(order, house)
            if size(box) <= 720:
                a, b, c = (nth(box, dice.randrange(size(box))) for _ in range(3))
                many = fewest(order, a, b)
                self.assertEqual(many, fewest(order, b, a))
                self.assertLessEqual(apart(a, b), many)
                self.assertLessEqual(many, fewest_ups(order, a) + fewest_ups(order, b))
                self.assertLessEqual(fewest(order, a, c), many + fewest(order, b, c))
                self.assertEqual(sum(balls(order, a)), size(box))
                self.same(fewest(order, a, a), 0)
                self.same(nearest_run(order, a, a), ())

    def test_a_class_of_about_2000(self):
        order, house = chain(16), (-1, 0, 1, 2, 3, 15) + tuple(range(7, 16)) + (-1,)
        self.assertEqual(size(box_of(order, house)), 1440)
        with quick(10):
            self.assertEqual(sum(balls(order, house)), 1440)
            self.assertEqual(len(class_of(order, house)), 1440)
            self.check(order, house, climbed(order, house), 4)
            self.assertEqual(balls(order, house)[:2], (1, 6))

    def test_just_2000_and_more(self):
        # To a place of a rank all places of lower ranks are admitted, and the door.
        for ranks, others, many in (
                ((0, 0, 0, 0, 1, 1, 1), (0, 1, 1, 1, 1), 2000), ((0, 0, 1, 1, 1, 1), (0, 0, 0, 0, 1, 1), 2025),
                ((0,) + (1,) * 10, (0,), 1024), ((0,) + (1,) * 11, (0, 0), 2048), ((0, 1) + (2,) * 6, (0, 0), 1458),
                ((0,) * 9 + (1, 1, 1), (0, 1), 2000), ((0,) * 9 + (1, 1, 1), (0, 0, 1), 3000)):
            order = side(ranked(ranks), ranked(others))
            house = (-1,) * order.n
            self.assertEqual(size(box_of(order, house)), many)
            self.check_limit(order, house, many)

    def check_limit(self, order, house, many):
        if many > 2000:
            for call in (class_of, balls):
                self.refused("TooMany", many, call, order, house)
            for call in (fewest, nearest_run):
                self.refused("TooMany", many, call, order, house, house)
        else:
            with quick(10):
                self.assertEqual(len(class_of(order, house)), many)
                self.assertEqual(sum(balls(order, house)), many)
                self.same(fewest(order, house, house), 0)
                self.check(order, house, house, 0)

    def test_refusals(self):
        order, good = chain(3), (-1, 0, 1)
        for call in (fewest, nearest_run):
            self.refuses_bad_houses(lambda house: call(order, house, good))
            self.refuses_bad_houses(lambda house: call(order, good, house))
            for name, what, bad in BAD_HOUSES:
                self.refused(name, what, call, order, bad, ())
                self.refused(name, what, call, order, bad, (-1,) * 4)
                self.refused(name, what, call, order, (2, 0, -1), bad)
            self.refused("NotJoined", 0, call, order, good, (2, 0, -1))
            # Houses that are not joined come before a class that is too great.
            self.refused("NotJoined", 0, call, chain(7), (-1,) * 7, (1,) + (-1,) * 6)
            self.refused("TooMany", 5040, call, chain(7), (-1,) * 7, (-1, 0) + (-1,) * 5)
        self.refused("TooMany", 20922789888000, class_of, chain(16), (-1,) * 16)
        self.refused("BadSize", 17, balls, chain(16), (-1,) * 17)


class OnePlace(Case):

    def test_examples(self):
        self.same(one_apart(chain(4), (-1, 0, 1, 2), (-1, 0, 1, 0)), 2)
        self.same(apart((-1, 0, 1, 2), (-1, 0, 1, 0)), 1)
        self.same(one_apart(chain(3), (-1, 0, 1), (-1, 0, -1)), 2)
        self.assertIsNone(one_apart(chain(3), (-1, 0, 1), (-1, -1, 0)))

    def test_unlike_parents(self):
        for one in all_houses(3):
            for two in all_houses(3):
                self.same(apart(one=one, two=two), sum(p != q for p, q in zip(one, two)))
        self.same(apart((-1,), (-1,)), 0)
        self.same(apart((1, -1), (-1, 0)), 2)
        self.same(apart((-1,) * 16, tuple(range(-1, 15))), 15)

    def test_one_apart_is_fewest(self):
        for order in orders():
            for one, others in oracle.classes(order, all_houses(order.n)).items():
                for two in others:
                    self.check_pair(order, one, two)
        for order, house in samples(10, 6):
            for two in sorted(oracle.class_of(order, house)):
                self.check_pair(order, house, two)

    def check_pair(self, order, one, two):
        found = one_apart(order=order, one=one, two=two)
        if apart(one, two) > 1:
            self.assertIsNone(found)
        else:
            self.same(found, fewest(order, one, two))
            self.assertEqual(found == 0, one == two)

    def test_16_places(self):
        dice = random.Random(3)
        path = tuple(range(-1, 15))
        with quick(5):
            for x in range(1, 16):
                for parent in range(-1, x):
                    other = path[:x] + (parent,) + path[x + 1:]
                    self.same(one_apart(chain(16), path, other), x - 1 - parent)
            for box in big_boxes():
                one, two = (nth(box, dice.randrange(size(box))) for _ in range(2))
                if apart(one, two) > 1:
                    self.assertIsNone(one_apart(box.order, one, two))

    def test_refusals_of_apart(self):
        good = (-1, 0, 1)
        for name, what, bad in BAD_HOUSES:
            if name != "Unlike":
                self.refused(name, what, apart, bad, good)
                self.refused(name, what, apart, good, bad)
                self.refused(name, what, apart, bad, ())
                self.refused(name, what, apart, (-1, 0), bad)
        for one, two in ((good, (-1,)), ((-1,), good), (good, (-1,) * 4), ((-1,) * 16, good)):
            self.refused("Unlike", len(two), apart, one, two)

    def test_refusals_of_one_apart(self):
        order, good = chain(3), (-1, 0, 1)
        self.refuses_bad_houses(lambda house: one_apart(order, house, good))
        self.refuses_bad_houses(lambda house: one_apart(order, good, house))
        for name, what, bad in BAD_HOUSES:
            self.refused(name, what, one_apart, order, bad, ())
            self.refused(name, what, one_apart, order, bad, (-1,) * 4)
            self.refused(name, what, one_apart, order, (2, 0, -1), bad)
        self.refused("NotJoined", 0, one_apart, order, good, (2, 0, -1))
        # Also where just one place has another parent.
        self.refused("NotJoined", 0, one_apart, flat(2), (-1, 0), (-1, -1))
        self.refused("NotJoined", 0, one_apart, order, (-1, 2, -1), (-1, -1, -1))
