"""How many climbings: nearlords.climbs, nearlords.climbcounts ([23])."""
from nearlords.climbcounts import fewest_ups, most_ups
from nearlords.climbed import climb_run, climbed
from nearlords.climbs import between_count, long_climb, steps
from nearlords.ordermakers import chain, flat, ranked
from nearlords.runs import walked
from tests import oracle
from tests.base import NO_PLACES, Case, all_houses, all_orders, quick, samples
from tests.test_deeds import cases


def between(order, house, x):
    """Return how many places stand above x and below its lord."""
    lord = oracle.lords_of(order, house)[x]
    return (oracle.above(house, x) + [-1]).index(lord)


class Steps(Case):

    def test_examples(self):
        order, house = chain(3), (-1, 0, 1)
        self.assertEqual([steps(order, house, x) for x in range(3)], [0, 1, 1])
        self.assertEqual([between_count(order, house, x) for x in range(3)], [0, 1, 2])
        order, house = chain(4), (1, -1, 0, 2)
        self.assertEqual([steps(order, house, x) for x in range(4)], [0, 0, 2, 1])
        self.assertEqual(fewest_ups(order, house), 3)
        self.assertEqual(steps(order, oracle.after(house, ("up", 3)), 3), 2)
        self.assertEqual(fewest_ups(order, oracle.after(house, ("up", 3))), 4)

    def test_goings_by_lords_and_places_between(self):
        for order, house in cases():
            for x in range(order.n):
                self.same(steps(order=order, house=house, x=x), oracle.steps_of(order, house, x))
                self.same(between_count(order=order, house=house, x=x), between(order, house, x))

    def test_none_in_the_form(self):
        for order, house in cases():
            form = climbed(order, house)
            self.assertEqual({steps(order, form, x) for x in range(order.n)}, {0})
            self.assertEqual({between_count(order, form, x) for x in range(order.n)}, {0})
            self.same(long_climb(order, form), ())
            self.same(fewest_ups(order, form), 0)
            self.same(most_ups(order, form), 0)

    def test_between_never_grows_by_ups(self):
        for order, house in cases():
            for other in oracle.ups_from(order, house):
                for x in range(order.n):
                    self.assertLessEqual(between_count(order, other, x), between_count(order, house, x))

    def test_refusals(self):
        for call in (steps, between_count):
            for x in NO_PLACES + (-1, 3):
                self.refused("BadPlace", x, call, chain(3), (-1, 0, 1), x)
                self.refuses_bad_houses(lambda house: call(chain(3), house, x))
            self.refuses_bad_houses(lambda house: call(chain(3), house, 2))


class LongClimb(Case):

    def test_examples(self):
        self.same(long_climb(chain(3), (-1, 0, 1)), (("up", 2), ("up", 2), ("up", 1)))
        # 2 and 3 stand equally deep, 1 less deep.
        self.same(long_climb(chain(4), (-1, 0, 1, 1)), (("up", 2), ("up", 2), ("up", 3), ("up", 3), ("up", 1)))
        self.same(long_climb(ranked((0, 1, 1)), (-1, 0, 0)), (("up", 1), ("up", 2)))
        self.same(long_climb(chain(1), (-1,)), ())

    def test_the_deepest_first_each_up_to_its_lord(self):
        for order, house in cases():
            form = oracle.lords_of(order, house)
            run, now = [], house
            for _, x in sorted((-len(oracle.above(house, x)), x) for x in range(order.n)):
                while now[x] != form[x]:
                    run.append(("up", x))
                    now = oracle.after(now, ("up", x))
            self.same(long_climb(order=order, house=house), tuple(run))
            self.assertEqual(oracle.walk(order, house, run), form)
            self.assertEqual(len(run), most_ups(order, house))

    def test_16_places(self):
        with quick(5):
            run = long_climb(chain(16), tuple(range(-1, 15)))
            self.assertEqual(run, tuple(("up", x) for x in range(15, 0, -1) for _ in range(x)))
            self.assertEqual(walked(chain(16), tuple(range(-1, 15)), run), (-1,) * 16)
            self.same(long_climb(flat(16), tuple(range(-1, 15))), ())

    def test_refusals(self):
        self.refuses_bad_houses(lambda house: long_climb(chain(3), house))


class Counts(Case):

    def test_examples(self):
        self.same(fewest_ups(chain(3), (-1, 0, 1)), 2)
        self.same(most_ups(chain(3), (-1, 0, 1)), 3)

    def test_by_all_runs_of_ups(self):
        for n in (1, 2, 3, 4):
            for order in all_orders(n) if n < 4 else all_orders(4)[::6] + [chain(4)]:
                known = {}
                for house in all_houses(n):
                    least, _, most = oracle.up_runs(order, house, known)
                    self.same(fewest_ups(order=order, house=house), least)
                    self.same(most_ups(order=order, house=house), most)
        for order, house in samples(40, 5) + samples(40, 6):
            least, _, most = oracle.up_runs(order, house, {})
            self.same((fewest_ups(order, house), most_ups(order, house)), (least, most))

    def test_sums(self):
        for order, house in cases():
            self.same(fewest_ups(order, house), sum(steps(order, house, x) for x in range(order.n)))
            self.same(most_ups(order, house), sum(between_count(order, house, x) for x in range(order.n)))
            self.same(fewest_ups(order, house), len(climb_run(order, house)))

    def test_16_places(self):
        with quick(5):
            self.same(fewest_ups(chain(16), tuple(range(-1, 15))), 15)
            self.same(most_ups(chain(16), tuple(range(-1, 15))), 120)

    def test_refusals(self):
        for call in (fewest_ups, most_ups):
            self.refuses_bad_houses(lambda house: call(chain(3), house))
