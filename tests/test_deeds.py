"""Deeds and what takes them back: nearlords.deeds, nearlords.done ([12], [13], [15])."""
import itertools

from nearlords.deeds import back_of, offers
from nearlords.done import done
from nearlords.ordermakers import chain, flat, ranked
from tests import oracle
from tests.base import NO_PLACES, Case, all_houses, all_orders, quick, samples

# What has neither of the two forms of deeds.
NO_DEEDS = (
    (), ("up",), ("down",), ("down", 1), ("up", 1, 0), ("down", 1, 0, 0), ("up", "1"), ("up", ""), ("down", "1", 0),
    ("down", 1, "0"), ("Up", 1), ("UP", 1), ("", 1), ("u", 1), ("up ", 1), ("lift", 1), ("lift", 1, 0), (1,), (1, 0),
    (1, 1, 0), (0, "up"), ("up", "up"), ("down", "down", "down"), ("mark",), ("graft", 1, 0), ("up", 99, 98),
)


def cases():
    """Return orders with houses of as many places."""
    found = [(order, house) for n in (1, 2, 3) for order in all_orders(n) for house in all_houses(n)]
    found += [(order, house) for order in all_orders(4)[::9] for house in all_houses(4)]
    return found + [case for n in (5, 6, 16) for case in samples(25, n)]


def every_deed(n):
    """Return all deeds of n places."""
    return ([("up", x) for x in range(n)]
            + [("down", x, q) for x in range(n) for q in range(n)])


class Offers(Case):

    def test_example(self):
        self.same(offers(chain(3), (-1, 0, 1)), (("up", 1), ("up", 2)))
        self.same(offers(chain(3), (-1, -1, 1)), (("down", 1, 0), ("up", 2)))

    def test_all_that_are_let(self):
        for order, house in cases():
            self.same(offers(order=order, house=house), tuple(oracle.lets(order, house)))

    def test_what_stops_a_place(self):
        self.same(offers(chain(2), (-1, -1)), (("down", 1, 0),))
        self.same(offers(chain(2), (1, -1)), ())
        self.same(offers(flat(2), (-1, 0)), ())
        self.same(offers(flat(2), (-1, -1)), ())
        self.same(offers(chain(1), (-1,)), ())
        self.same(offers(ranked((0, 0, 1)), (-1, 0, 1)), (("up", 2),))
        self.same(offers(ranked((0, 0, 1)), (-1, -1, -1)), (("down", 2, 0), ("down", 2, 1)))

    def test_16_places(self):
        downs = tuple(("down", x, q) for x in range(16) for q in range(x))
        with quick(5):
            self.same(offers(chain(16), (-1,) * 16), downs)
            self.same(offers(chain(16), tuple(range(-1, 15))), tuple(("up", x) for x in range(1, 16)))

    def test_refusals(self):
        self.refuses_bad_houses(lambda house: offers(chain(3), house))


class Done(Case):

    def test_example(self):
        order = chain(3)
        self.same(done(order, (-1, 0, 1), ("up", 1)), (-1, -1, 1))
        self.same(done(order, (-1, -1, 1), ("down", 1, 0)), (-1, 0, 1))
        self.same(done(deed=("up", 2), house=(-1, 0, 1), order=order), (-1, 0, 0))

    def test_every_deed(self):
        for order, house in cases():
            let = oracle.lets(order, house)
            for deed in every_deed(order.n):
                if deed in let:
                    self.same(done(order, house, deed), oracle.after(house, deed))
                else:
                    self.refused("BadDeed", 2, done, order, house, deed)

    def test_the_house_handed_in_stays(self):
        house = (-1, 0, 1)
        done(chain(3), house, ("up", 2))
        self.same(house, (-1, 0, 1))

    def test_no_deeds(self):
        for deed in NO_DEEDS:
            self.refused("BadDeed", 0, done, chain(3), (-1, 0, 1), deed)

    def test_no_places(self):
        for bad in NO_PLACES + (-1, 3):
            for deed in (("up", bad), ("down", bad, 0), ("down", 0, bad), ("down", bad, bad)):
                self.refused("BadDeed", 1, done, chain(3), (-1, 0, 1), deed)
        self.refused("BadDeed", 1, done, flat(16), (-1,) * 16, ("up", 16))

    def test_not_let(self):
        for order, house, deed in (
                (chain(3), (-1, 0, 1), ("up", 0)), (chain(3), (-1, -1, -1), ("down", 1, 1)),
                (chain(3), (-1, -1, -1), ("down", 0, 1)), (chain(3), (-1, 0, 1), ("down", 2, 0)),
                (chain(3), (1, 2, -1), ("up", 0)), (flat(2), (-1, 0), ("up", 1)), (flat(2), (-1, -1), ("down", 1, 0)),
                (ranked((0, 0, 1)), (-1, 0, 1), ("up", 1)), (chain(3), (-1, 0, 1), ("down", 1, 2))):
            self.refused("BadDeed", 2, done, order, house, deed)

    def test_order_of_the_checks(self):
        for deed in ((), ("up", 99), ("up", 0)):
            self.refuses_bad_houses(lambda house: done(chain(3), house, deed))
        self.refused("BadDeed", 0, done, chain(3), (-1, 0, 1), ("up", 99, 98))
        self.refused("BadDeed", 0, done, chain(3), (-1, 0, 1), ("down", 99))
        self.refused("BadDeed", 1, done, chain(3), (-1, 0, 1), ("down", 3, 3))


class Back(Case):

    def test_every_deed_without_an_order(self):
        for house in [house for n in (1, 2, 3, 4) for house in all_houses(n)] + [h for _, h in samples(9, 16)]:
            for deed in every_deed(len(house)):
                x = deed[1]
                if deed[0] == "up" and house[x] != -1:
                    self.same(back_of(house, deed), ("down", x, house[x]))
                elif deed[0] == "down" and deed[2] != x and house[deed[2]] == house[x]:
                    self.same(back_of(house=house, deed=deed), ("up", x))
                else:
                    self.refused("BadDeed", 2, back_of, house, deed)

    def test_each_deed_is_taken_back(self):
        for order, house in cases():
            for deed in offers(order, house):
                behind = done(order, house, deed)
                self.same(done(order, behind, back_of(house, deed)), house)

    def test_refusals(self):
        for bad in ((), (-1,) * 17):
            self.refused("BadSize", len(bad), back_of, bad, ("up", 99))
        self.refused("BadParent", 1, back_of, (-1, 1), ())
        self.refused("Round", 0, back_of, (1, 0), ("up", 0))
        for deed in NO_DEEDS:
            self.refused("BadDeed", 0, back_of, (-1, 0, 1), deed)
        for bad in NO_PLACES + (-1, 3):
            for deed in (("up", bad), ("down", bad, 0), ("down", 0, bad), ("down", bad, bad)):
                self.refused("BadDeed", 1, back_of, (-1, 0, 1), deed)
        self.refused("BadDeed", 2, back_of, (-1, 0, 1), ("up", 0))
        self.refused("BadDeed", 2, back_of, (-1, 0, 1), ("down", 1, 1))
        self.refused("BadDeed", 2, back_of, (-1, 0, 1), ("down", 1, 2))
        self.refused("BadDeed", 2, back_of, (-1, 0, 1), ("down", 1, 0))

    def test_deeds_are_pairwise(self):
        for one, two in itertools.permutations(range(3), 2):
            self.same(back_of((-1, -1, -1), ("down", one, two)), ("up", one))
