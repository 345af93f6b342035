"""Runs, runs back and judging them: nearlords.runs, nearlords.judged ([14], [15])."""
import random

from nearlords.deeds import offers
from nearlords.judged import run_right
from nearlords.ordermakers import chain, flat, ranked
from nearlords.runs import turned_run, ups, walked
from tests import oracle
from tests.base import Case, all_houses, all_orders, nested, quick, samples
from tests.test_deeds import NO_DEEDS

TO_AND_FRO = (("up", 1), ("down", 1, 0))


def strolls(many, n, longest):
    """Return orders with a house and a run from it, by chance."""
    dice = random.Random(many + n)
    found = []
    for order, house in samples(many, n):
        run = []
        at = house
        for _ in range(dice.randrange(longest)):
            let = oracle.lets(order, at)
            if let:
                run.append(dice.choice(let))
                at = oracle.after(at, run[-1])
        found.append((order, house, tuple(run), at))
    return found


class Walked(Case):

    def test_where_runs_lead(self):
        for n in (1, 2, 3, 4, 6, 16):
            for order, house, run, end in strolls(30, n, 40):
                self.same(walked(order=order, house=house, run=run), end)
                self.same(oracle.walk(order, house, run), end)

    def test_the_empty_run(self):
        for house in all_houses(3):
            self.same(walked(chain(3), house, ()), house)
            self.same(turned_run(chain(3), house, ()), ())
            self.same(run_right(chain(3), house, (), house), True)

    def test_examples(self):
        self.same(walked(chain(3), (-1, 0, 1), (("up", 1), ("down", 1, 0))), (-1, 0, 1))
        self.same(walked(chain(3), (-1, 0, 1), (("up", 1), ("up", 2))), (-1, -1, -1))

    def test_all_runs_of_two_deeds(self):
        for order in all_orders(3):
            for house in all_houses(3):
                deeds = [("up", x) for x in range(3)] + [("down", x, q) for x in range(3) for q in range(3)]
                for one in deeds:
                    for two in deeds:
                        self.check(order, house, (one, two))

    def check(self, order, house, run):
        behind = oracle.walk(order, house, run[:1])
        if behind is None:
            self.refused("BadRow", 0, walked, order, house, run)
        elif oracle.walk(order, behind, run[1:]) is None:
            self.refused("BadRow", 1, walked, order, house, run)
        else:
            self.same(walked(order, house, run), oracle.walk(order, house, run))

    def test_the_first_deed_that_is_refused(self):
        order, house = chain(3), (-1, 0, 1)
        for call in (walked, turned_run):
            for bad in NO_DEEDS + (("up", 3), ("up", -1), ("down", 1, 16), ("up", 0), ("down", 1, 0)):
                self.refused("BadRow", 0, call, order, house, (bad,))
                self.refused("BadRow", 0, call, order, house, (bad, ("up", 1)))
                self.refused("BadRow", 2, call, order, house, TO_AND_FRO + (bad, bad, ()))
            self.refused("BadRow", 1, call, order, house, (("up", 1), ("up", 1)))

    def test_runs_of_2000_and_2001_deeds(self):
        order, house = chain(2), (-1, 0)
        with quick(10):
            self.same(walked(order, house, TO_AND_FRO * 1000), house)
            self.same(turned_run(order, house, TO_AND_FRO * 1000), TO_AND_FRO * 1000)
            self.same(walked(order, house, TO_AND_FRO * 999 + TO_AND_FRO[:1]), (-1, -1))
            self.same(ups(TO_AND_FRO * 1000), 1000)
            self.same(run_right(order, house, TO_AND_FRO * 1000, house), True)
            self.same(run_right(order, house, TO_AND_FRO * 1000 + TO_AND_FRO[:1], (-1, -1)), False)
            self.same(run_right(order, house, TO_AND_FRO * 1001, house), False)
        for many in (2001, 2002, 5000):
            run = (TO_AND_FRO * 2500)[:many]
            self.refused("TooMany", many, walked, order, house, run)
            self.refused("TooMany", many, turned_run, order, house, run)
            self.refused("TooMany", many, ups, run)
        self.refused("BadRow", 1999, walked, order, house, TO_AND_FRO * 999 + (("up", 1), ("up", 1)))

    def test_order_of_the_checks(self):
        for call in (walked, turned_run):
            for run in ((), ((),), (("up", 0),), (("up", 1),) * 2001):
                self.refuses_bad_houses(lambda house: call(chain(3), house, run))
            self.refused("TooMany", 2001, call, chain(3), (-1, 0, 1), ((),) * 2001)


class Turned(Case):

    def test_runs_back(self):
        for n in (2, 3, 4, 6, 16):
            for order, house, run, end in strolls(30, n, 30):
                back = turned_run(order=order, house=house, run=run)
                self.assertIs(type(back), tuple)
                self.same(oracle.walk(order, end, back), house)
                self.same(turned_run(order, end, back), run)
                at = house
                for k, deed in enumerate(run):
                    self.same(back[-1 - k], ("down", deed[1], at[deed[1]]) if deed[0] == "up" else ("up", deed[1]))
                    at = oracle.after(at, deed)

    def test_example(self):
        run = (("up", 1), ("up", 2))
        self.same(turned_run(chain(3), (-1, 0, 1), run), (("down", 2, 1), ("down", 1, 0)))


class Ups(Case):

    def test_ups(self):
        self.same(ups(()), 0)
        self.same(ups((("up", 1),)), 1)
        self.same(ups((("down", 1, 0),)), 0)
        self.same(ups(run=(("up", 1), ("down", 15, 0), ("up", 9))), 2)
        for _, _, run, _ in strolls(30, 6, 40):
            self.same(ups(run), sum(deed[0] == "up" for deed in run))
        self.same(ups((("up", 0),) * 2000), 2000)


class RunRight(Case):

    def test_right_and_wrong_goals(self):
        for n in (1, 2, 3, 4):
            for order, house, run, end in strolls(20, n, 12):
                for goal in all_houses(n)[::5] + [end]:
                    self.same(run_right(order, house, run, goal), goal == end)
        for order, house, run, end in strolls(20, 16, 40):
            self.same(run_right(order=order, house=house, run=run, goal=end), True)
            self.same(run_right(order, house, run + (("up", 16),), end), False)
        self.same(run_right(chain(2), (-1, 0), (("up", 1),), (-1, 0)), False)

    def test_deeds_that_are_not_let(self):
        house = (-1, 0, 1)
        self.same(run_right(ranked((0, 0, 1)), house, (("up", 1),), (-1, -1, 1)), False)
        self.same(run_right(chain(3), house, (("up", 1),), (-1, -1, 1)), True)
        self.same(run_right(flat(3), house, (("up", 1),), (-1, -1, 1)), False)
        for bad in NO_DEEDS + ("up", "", 0, 7, "up1", ((),), nested(48), (("up", 1),), ("up", (1,)), ("up", ("1",)),
                               (("up",), 1), ("down", (1,), 0), ("down", 1, (0,)), ("up", 10 ** 40)):
            self.same(run_right(chain(3), house, (bad,), house), False)
            self.same(run_right(chain(3), house, TO_AND_FRO + (bad,), house), False)

    def test_houses_of_other_sizes(self):
        self.same(run_right(chain(3), (-1, 0), (), (-1, 0)), False)
        self.same(run_right(chain(3), (-1, 0), (), (-1, 0, 1)), False)
        self.same(run_right(chain(3), (-1, 0, 1), (), (-1, 0)), False)
        self.same(run_right(chain(2), (-1, 0, 1), (), (-1, 0, 1)), False)

    def test_other_forms(self):
        self.no_judge_raises(run_right, (1, 2, 3), [chain(3), (-1, 0, 1), (("up", 1),), (-1, -1, 1)])
        for odd in ("", "up", 0, "upup", ("up", 1), ("down", 1, 0)):
            self.same(run_right(chain(3), (-1, 0, 1), odd, (-1, 0, 1)), False)
        with quick(10):
            self.same(run_right(chain(3), (-1, 0, 1), (("up", 1),) * 3333, (-1, 0, 1)), False)

    def test_offered_deeds_are_runs(self):
        for order, house in samples(20, 5):
            for deed in offers(order, house):
                self.same(run_right(order, house, (deed,), oracle.after(house, deed)), True)
