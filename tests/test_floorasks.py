"""Going home: nearlords.floorasks ([47])."""
import random

from nearlords.floor import Floor
from nearlords.floorasks import can_go_home, choices, kin, way_home, why_not
from nearlords.nopapers import no_right
from nearlords.ordermakers import chain, flat, ranked
from tests import oracle
from tests.base import NO_PLACES, Case, all_houses, all_orders, quick, some_house, some_order

HOUSE = (-1, 0, 1)


def do_some(dice, floor):
    """Do, undo or redo something on a floor that is granted; a deed up or down if one is let, rather often."""
    n = floor.order().n
    x, y = dice.randrange(n), dice.randrange(-1, n)
    house, pairs = floor.house(), {(a, b) for b in range(n) for a in floor.order().lesser[b]}
    let = oracle.lets(floor.order(), house)
    word = dice.choice(("run", "run", "run", "relate", "graft", "mark", "undo", "redo"))
    if word == "run" and let:
        deed = dice.choice(let)
        getattr(floor, deed[0])(*deed[1:])
    elif word == "relate" and y not in (-1, x) and (y, x) not in pairs:
        floor.relate(x, y)
    elif word == "graft" and y != x and (y == -1 or x not in oracle.above(house, y)):
        floor.graft(x, y)
    elif word == "mark" or (word == "undo" and floor.record()):
        getattr(floor, word)()


def product_of(rows):
    """Return the product of the lengths of some rows."""
    many = 1
    for row in rows:
        many *= len(row)
    return many


class Asks(Case):

    def check(self, floor):
        """Assert all answers of a floor; return whether one can go home."""
        order, house, mark = floor.order(), floor.house(), floor.marked()
        here, there = oracle.lords_of(order, house), oracle.lords_of(order, mark)
        record = floor.record()
        self.same(can_go_home(floor=floor), here == there)
        if here == there:
            self.assertEqual(oracle.walk(order, house, way_home(floor=floor)), mark)
            self.refused("Joined", 0, why_not, floor)
        else:
            x = next(x for x in range(order.n) if here[x] != there[x])
            self.same(why_not(floor=floor), (x, here[x], there[x]))
            self.same(no_right(order, house, mark, why_not(floor)), True)
            self.refused("NotJoined", 0, way_home, floor)
        rows = oracle.rows_of(order, house)
        self.same(kin(floor=floor), product_of(rows))
        for x in range(order.n):
            self.same(choices(floor=floor, x=x), rows[x])
        # Nothing has changed by asking.
        self.same(floor.record(), record)
        return here == there

    def test_examples(self):
        floor = Floor(flat(2), (-1, -1))
        self.same(can_go_home(floor), True)
        self.same(way_home(floor), ())
        floor.graft(1, 0)
        self.same(can_go_home(floor), False)
        self.same(why_not(floor), (1, 0, -1))
        floor.relate(0, 1)
        self.same(can_go_home(floor), True)
        self.same(way_home(floor), (("up", 1),))
        self.same(kin(floor), 2)
        self.same(choices(floor, 1), (-1, 0))
        self.refused("Joined", 0, why_not, floor)
        floor.undo()
        self.same(why_not(floor), (1, 0, -1))
        self.refused("NotJoined", 0, way_home, floor)

    def test_the_way_is_run_between(self):
        floor = Floor(chain(3), (-1, 0, -1))
        floor.mark()
        floor.down(2, 0)
        floor.down(2, 1)
        # It goes by way of the form, and is not shortened.
        self.same(way_home(floor), (("up", 1), ("up", 2), ("down", 1, 0)))
        floor.mark()
        self.same(way_home(floor), (("up", 1), ("up", 2), ("down", 2, 1), ("down", 1, 0)))

    def test_drawn_rows_of_deeds(self):
        dice = random.Random(170)
        told = []
        with quick(60):
            for n, many in ((1, 3), (2, 20), (3, 60), (4, 60), (6, 30), (16, 4)):
                for _ in range(many):
                    floor = Floor(some_order(dice, n), some_house(dice, n))
                    for _ in range(25):
                        do_some(dice, floor)
                        told.append(self.check(floor))
        self.assertGreater(told.count(True), 500)
        self.assertGreater(told.count(False), 500)

    def test_without_a_graft_one_can_go_home(self):
        dice = random.Random(171)
        for n in (2, 3, 4, 6, 16):
            for _ in range(10):
                floor = Floor(some_order(dice, n), some_house(dice, n))
                for _ in range(30):
                    do_some(dice, floor)
                    row = [deed[0] for deed in floor.record()]
                    marks = [k for k, word in enumerate(row) if word == "mark"]
                    if "graft" not in row[(marks or [0])[-1]:]:
                        self.same(can_go_home(floor), True)

    def test_a_relate_never_takes_it_away(self):
        for order in all_orders(3)[::2]:
            for house in all_houses(3)[::2]:
                for mark in all_houses(3)[::3]:
                    for x, y in ((0, 1), (1, 2), (2, 0), (1, 0)):
                        self.relate(order, house, mark, x, y)

    def relate(self, order, house, mark, x, y):
        """Assert that who could go home can do so behind a relate, if it is granted."""
        floor = Floor(order, mark)
        for z in range(3):
            floor.graft(z, -1)
        for z in sorted(range(3), key=lambda z: len(oracle.above(house, z))):
            floor.graft(z, house[z])
        self.same((floor.house(), floor.marked()), (house, mark))
        before = can_go_home(floor)
        if y not in order.lesser[x]:
            floor.relate(x, y)
            if before:
                self.same(can_go_home(floor), True)
            self.check(floor)

    def test_answers_come_back_by_undo_and_redo(self):
        dice = random.Random(172)
        for n in (2, 3, 5):
            floor = Floor(some_order(dice, n), some_house(dice, n))
            for _ in range(40):
                do_some(dice, floor)
            many = len(floor.record())
            found = [self.answers(floor)]
            for _ in range(many):
                floor.undo()
                found.append(self.answers(floor))
            for before in found[-2::-1]:
                floor.redo()
                self.assertEqual(self.answers(floor), before)

    def answers(self, floor):
        """Return all answers of a floor."""
        home = way_home(floor) if can_go_home(floor) else why_not(floor)
        return can_go_home(floor), home, kin(floor), [choices(floor, x) for x in range(floor.order().n)]

    def test_16_places(self):
        with quick(5):
            floor = Floor(chain(16), tuple(range(-1, 15)))
            self.same(kin(floor), 20922789888000)
            self.same(choices(floor, 15), tuple(range(-1, 15)))
            for x in range(15, 0, -1):
                for _ in range(x):
                    floor.up(x)
            self.same(len(way_home(floor)), 15)
            floor.graft(0, 15)
            self.same(why_not(floor), (0, 15, -1))
            self.same(kin(floor), 1307674368000)

    def test_refusals(self):
        floor = Floor(ranked((0, 0, 1)), HOUSE)
        for x in NO_PLACES + (-1, 3):
            self.refused("BadPlace", x, choices, floor, x)
        self.refused("Joined", 0, why_not, floor)
        floor.graft(1, -1)
        self.refused("NotJoined", 0, way_home, floor)
