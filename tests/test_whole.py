"""What holds for all orders, houses and runs ([0.3], (a), (b), (c)), and general rules ([0.1], [0.4])."""
import itertools

from nearlords.admitted import admitted, in_class
from nearlords.boxes import box_of, holds, size
from nearlords.climbed import climb_run, climbed
from nearlords.deeds import offers
from nearlords.done import done
from nearlords.high import is_high
from nearlords.joined import joined, run_between
from nearlords.judged import run_right
from nearlords.lords import lords
from nearlords.orders import made_order
from nearlords.ordermakers import chain, dividing, flat, ranked, setwise
from nearlords.orderjoins import side, stacked, turned
from nearlords.runs import turned_run, walked
from tests import oracle
from tests.base import Case, all_houses, all_orders, pairs_of, quick, samples


def kinds_of_four():
    """Return one order of 4 places of each kind, 16 in all, oddly numbered."""
    found = {}
    for order in all_orders(4):
        kind = min(tuple(sorted((names[x], names[y]) for x, y in pairs_of(order)))
                   for names in itertools.permutations(range(4)))
        found[kind] = order
    return list(found.values())


class Small(Case):

    def whole(self, order):
        """Assert for all houses of an order all that holds."""
        houses = all_houses(order.n)
        found = oracle.classes(order, houses)
        for one in houses:
            form = climbed(order, one)
            self.same(lords(order, one), form)
            self.assertIn(form, found[one])
            self.assertEqual([two for two in found[one] if is_high(order, two)], [form])
            box = box_of(order, one)
            self.assertEqual(set(itertools.product(*box.rows)), set(found[one]))
            self.same(size(box), len(found[one]))
            for two in houses:
                self.two(order, one, two, found, box)

    def two(self, order, one, two, found, box):
        together = two in found[one]
        self.same(joined(order, one, two), together)
        self.same(in_class(order, one, two), together)
        self.same(holds(box, two), together)
        if together:
            run = run_between(order, one, two)
            self.same(run_right(order, one, run, two), True)
            self.same(oracle.walk(order, one, run), two)
        else:
            self.refused("NotJoined", 0, run_between, order, one, two)

    def test_all_orders_of_up_to_3_places(self):
        for n in (1, 2, 3):
            for order in all_orders(n):
                self.whole(order)

    def test_each_kind_of_order_of_4_places(self):
        kinds = kinds_of_four()
        self.assertEqual(len(kinds), 16)
        for order in kinds:
            self.whole(order)

    def test_all_orders_of_4_places(self):
        for order in all_orders(4):
            for house, others in oracle.classes(order, all_houses(4)).items():
                self.assertEqual(set(itertools.product(*box_of(order, house).rows)), others)

    def test_orders_of_5_and_6_places(self):
        orders = [chain(5), flat(5), ranked((1, 0, 1, 0, 2)), dividing((1, 2, 3, 4, 6)), turned(chain(6)),
                  setwise(((), (1,), (2,), (1, 2), (3,), (1, 3))), side(chain(2), chain(3)),
                  stacked(flat(2), side(chain(2), chain(1))), ranked((0, 0, 0, 1, 1, 1)), flat(6)]
        for k, order in enumerate(orders):
            for _, house in samples(6, order.n, seed=20 + k):
                others = oracle.class_of(order, house)
                box = box_of(order, house)
                self.assertEqual(set(itertools.product(*box.rows)), others)
                for other in sorted(others)[::7]:
                    self.assertTrue(box == box_of(order, other))
                    self.same(oracle.walk(order, house, run_between(order, house, other)), other)


class General(Case):

    def test_16_places_quickly(self):
        with quick(30):
            for order, house in samples(60, 16):
                form = climbed(order, house)
                run = climb_run(order, house)
                self.same(walked(order, house, run), form)
                self.same(walked(order, form, turned_run(order, house, run)), house)
                self.same(walked(order, house, run_between(order, house, form)), form)
                for deed in offers(order, house):
                    self.same(joined(order, house, done(order, house, deed)), True)

    def test_nothing_handed_in_is_changed(self):
        pairs = ((0, 1), (0, 2), (1, 2))
        order = made_order(3, pairs)
        house = (-1, 0, 1)
        box = box_of(order, house)
        for call in (offers, lords, is_high, climb_run, climbed, box_of):
            call(order, house)
        admitted(order, house, 2)
        size(box)
        holds(box, house)
        run_between(order, house, (-1, -1, -1))
        self.same(order.lesser, ((), (0,), (0, 1)))
        self.same(house, (-1, 0, 1))
        self.same(box.rows, ((-1,), (-1, 0), (-1, 0, 1)))
        self.same(box.lords, (-1, -1, -1))

    def test_the_same_arguments_give_the_same(self):
        for order, house in samples(10, 6):
            for call in (offers, lords, is_high, climb_run, climbed, box_of):
                self.assertTrue(call(order, house) == call(order, house))

    def test_a_refused_call_changes_nothing(self):
        order = chain(3)
        for bad in ((), (1, 0, -1), (-1, 0)):
            for call in (offers, lords, is_high, climb_run, climbed, box_of):
                self.assertRaises(ValueError, call, order, bad)
        self.same(order.n, 3)
        self.same(order.lesser, ((), (0,), (0, 1)))
