"""Climbing, joined houses and runs between them: nearlords.climbed, nearlords.joined ([17], [18])."""
from nearlords.climbed import climb_run, climbed
from nearlords.joined import joined, run_between
from nearlords.orderlooks import row_of
from nearlords.ordermakers import chain, flat, ranked
from nearlords.runs import turned_run, walked
from tests import oracle
from tests.base import BAD_HOUSES, Case, all_houses, all_orders, quick, samples
from tests.test_deeds import cases


def climbing(order, house):
    """Return the run by which the places climb, one by one, in their row."""
    run = []
    for x in row_of(order):
        while ("up", x) in oracle.lets(order, house):
            run.append(("up", x))
            house = oracle.after(house, ("up", x))
    return tuple(run)


class Climbed(Case):

    def test_example(self):
        self.same(climb_run(chain(3), (-1, 0, 1)), (("up", 1), ("up", 2)))
        self.same(climbed(chain(3), (-1, 0, 1)), (-1, -1, -1))

    def test_places_climb_in_their_row(self):
        for order, house in cases():
            run = climb_run(order=order, house=house)
            self.same(run, climbing(order, house))
            self.same(climbed(order=order, house=house), oracle.walk(order, house, run))
            self.same(climbed(order, house), oracle.lords_of(order, house))

    def test_as_many_deeds_as_there_are_steps(self):
        for order, house in cases():
            many = sum(oracle.steps_of(order, house, x) for x in range(order.n))
            self.assertEqual(len(climb_run(order, house)), many)

    def test_of_a_form_nobody_climbs(self):
        for order, house in cases():
            form = climbed(order, house)
            self.same(climb_run(order, form), ())
            self.same(climbed(order, form), form)

    def test_16_places(self):
        with quick(5):
            self.same(climb_run(chain(16), tuple(range(-1, 15))), tuple(("up", x) for x in range(1, 16)))
            self.same(climb_run(flat(16), tuple(range(-1, 15))), ())
        self.same(climb_run(chain(1), (-1,)), ())
        # Each parent has climbed before its child, so one deed each will do.
        self.same(climb_run(ranked((2, 1, 3, 0)), (1, 3, 0, -1)), (("up", 1), ("up", 0), ("up", 2)))
        for order, house in samples(30, 16):
            self.assertLessEqual(len(climb_run(order, house)), 120)

    def test_refusals(self):
        self.refuses_bad_houses(lambda house: climb_run(chain(3), house))
        self.refuses_bad_houses(lambda house: climbed(chain(3), house))


class Joined(Case):

    def test_just_the_houses_of_one_class(self):
        for order in all_orders(1) + all_orders(2) + all_orders(3) + all_orders(4)[::40]:
            found = oracle.classes(order, all_houses(order.n))
            for one in all_houses(order.n):
                for two in all_houses(order.n):
                    self.same(joined(order, one, two), two in found[one])

    def test_16_places(self):
        for order, house in samples(20, 16):
            self.same(joined(order=order, one=house, two=climbed(order, house)), True)
            self.same(joined(order, house, (-1,) * 16), oracle.lords_of(order, house) == (-1,) * 16)

    def test_refusals(self):
        order, good = chain(3), (-1, 0, 1)
        for call in (joined, run_between):
            self.refuses_bad_houses(lambda house: call(order, house, good))
            self.refuses_bad_houses(lambda house: call(order, good, house))
            for name, what, bad in BAD_HOUSES:
                self.refused(name, what, call, order, bad, ())
                self.refused(name, what, call, order, bad, (-1,) * 4)
                self.refused(name, what, call, order, (2, 0, -1), bad)


class RunBetween(Case):

    def test_examples(self):
        self.same(run_between(chain(3), (-1, 0, 1), (-1, 0, -1)), (("up", 1), ("up", 2), ("down", 1, 0)))
        self.same(run_between(chain(2), (-1, 0), (-1, 0)), (("up", 1), ("down", 1, 0)))
        self.same(run_between(flat(2), (-1, 0), (-1, 0)), ())

    def test_by_way_of_the_form(self):
        for order in all_orders(3) + all_orders(4)[::25] + [chain(4)]:
            for one, others in oracle.classes(order, all_houses(order.n)).items():
                for two in others:
                    self.check(order, one, two)

    def check(self, order, one, two):
        run = run_between(order=order, one=one, two=two)
        up = climb_run(order, one)
        down = turned_run(order, two, climb_run(order, two))
        self.same(run, up + down)
        self.same(oracle.walk(order, one, run), two)
        self.assertTrue(all(deed[0] == "up" for deed in up))
        self.assertTrue(all(deed[0] == "down" for deed in down))

    def test_16_places(self):
        order = chain(16)
        one, two = tuple(range(-1, 15)), (-1,) + (0,) * 15
        with quick(5):
            run = run_between(order, one, two)
            self.same(walked(order, one, run), two)
        self.assertEqual(len(run), 30)
        for order, house in samples(20, 16):
            self.check(order, house, climbed(order, house))
            self.check(order, climbed(order, house), house)

    def test_not_joined(self):
        for order in all_orders(3):
            found = oracle.classes(order, all_houses(3))
            for one in all_houses(3):
                for two in all_houses(3):
                    if two not in found[one]:
                        self.refused("NotJoined", 0, run_between, order, one, two)
        self.refused("NotJoined", 0, run_between, flat(2), (-1, 0), (-1, -1))
