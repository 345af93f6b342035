"""The floor, undoing, the record: nearlords.floor ([44], [45], [46])."""
import random

from nearlords.floor import Floor
from nearlords.orders import Order, made_order
from nearlords.ordermakers import chain, flat, ranked
from tests import oracle
from tests.base import NO_PLACES, Case, all_houses, all_orders, pairs_of, quick, samples, some_house, some_order

HOUSE = (-1, 0, 1)


class Model:
    """A floor kept plainly, with the words of the document: all standing deeds are done anew for each look."""

    def __init__(self, order, house):
        self.n, self.pairs, self.start = order.n, frozenset(pairs_of(order)), house
        self.deeds, self.undone = [], []

    def state(self):
        """Return the pairs of the order, the house, the mark and the record."""
        pairs, house, mark, record = self.pairs, self.start, self.start, []
        for deed in self.deeds:
            row = deed
            if deed[0] in ("up", "down"):
                house = oracle.after(house, deed)
            elif deed[0] == "relate":
                pairs = frozenset(oracle.closed(pairs | {deed[1:]}))
            elif deed[0] == "graft":
                row = deed + (house[deed[1]],)
                house = house[:deed[1]] + (deed[2],) + house[deed[1] + 1:]
            else:
                mark = house
            record.append(row)
        return pairs, house, mark, tuple(record)

    def order(self):
        """Return the order as it stands."""
        return made_order(self.n, tuple(self.state()[0]))

    def refusal(self, deed):
        """Return the name and what of the error that a deed raises, or None."""
        pairs, house, _, record = self.state()
        places = range(self.n)
        late = ("TooMany", 301) if len(record) == 300 else None
        if deed[0] in ("up", "down"):
            if any(x not in places for x in deed[1:]):
                return "BadDeed", 1
            return late if deed in oracle.lets(self.order(), house) else ("BadDeed", 2)
        if deed[0] == "relate":
            bad = [x for x in deed[1:] if x not in places]
            if bad:
                return "BadPlace", bad[0]
            return ("Round", deed[1]) if deed[1] == deed[2] or deed[:0:-1] in pairs else late
        if deed[0] == "graft":
            x, p = deed[1:]
            if x not in places:
                return "BadPlace", x
            return ("BadParent", p) if p not in (-1, *places) or p == x or x in self.above(house, p) else late
        return late

    def above(self, house, p):
        """Return what stands above p, which may be the door."""
        return oracle.above(house, p) if p != -1 else []

    def do(self, deed):
        """Do a deed that is granted."""
        self.deeds.append(deed)
        self.undone = []


def told(floor):
    """Return all that a floor tells of itself."""
    return pairs_of(floor.order()), floor.house(), floor.marked(), floor.record()


def call(floor, deed):
    """Do a deed on a floor."""
    return getattr(floor, deed[0])(*deed[1:])


def some_deed(dice, n, model):
    """Return a deed by chance, one that is let rather often."""
    x, y = dice.randrange(-2, n + 1), dice.randrange(-2, n + 1)
    let = oracle.lets(model.order(), model.state()[1])
    if let and dice.randrange(3) == 0:
        return dice.choice(let)
    return dice.choice((("up", x), ("down", x, y), ("relate", x, y), ("graft", x, y), ("graft", x, y), ("mark",)))


class Deeds(Case):

    def same_as(self, floor, model):
        """Assert that a floor is as its model says."""
        pairs, house, mark, record = model.state()
        self.assertIs(type(floor.order()), Order)
        self.assertTrue(floor.order() == model.order())
        self.same(floor.house(), house)
        self.same(floor.marked(), mark)
        self.same(floor.record(), record)
        self.assertTrue(all(type(row) is tuple for row in floor.record()))

    def one_step(self, floor, model, deed):
        """Do a deed on both, or see that it is refused and nothing changes; return whether it is granted."""
        bad = model.refusal(deed)
        if bad:
            self.refused(*bad, call, floor, deed)
        else:
            self.assertIsNone(call(floor, deed))
            model.do(deed)
        self.same_as(floor, model)
        return not bad

    def undo_or_redo(self, floor, model, word):
        """Undo or redo on both, or see that there is nothing."""
        source, aim = (model.deeds, model.undone) if word == "undo" else (model.undone, model.deeds)
        if source:
            self.assertIsNone(getattr(floor, word)())
            aim.append(source.pop())
        else:
            self.refused("NothingToUndo" if word == "undo" else "NothingToRedo", 0, getattr(floor, word))
        self.same_as(floor, model)

    def test_a_new_floor(self):
        for order, house in [(chain(3), HOUSE), (flat(1), (-1,))] + samples(5, 16):
            floor = Floor(order=order, house=house)
            self.assertTrue(floor.order() == order)
            self.same(floor.house(), house)
            self.same(floor.marked(), house)
            self.same(floor.record(), ())
            self.refused("NothingToUndo", 0, floor.undo)
            self.refused("NothingToRedo", 0, floor.redo)

    def test_each_deed(self):
        floor = Floor(ranked((0, 0, 1)), HOUSE)
        self.assertIsNone(floor.up(x=2))
        self.same(floor.house(), (-1, 0, 0))
        self.assertIsNone(floor.down(x=2, q=1))
        self.same(floor.house(), HOUSE)
        self.assertIsNone(floor.relate(x=0, y=1))
        self.assertTrue(floor.order() == chain(3))
        self.assertIsNone(floor.relate(0, 1))
        self.assertIsNone(floor.graft(x=0, p=-1))
        self.assertIsNone(floor.graft(2, -1))
        self.same(floor.marked(), HOUSE)
        self.assertIsNone(floor.mark())
        self.same(floor.marked(), (-1, 0, -1))
        self.assertIsNone(floor.graft(0, 2))
        self.same(floor.house(), (2, 0, -1))
        self.same(floor.marked(), (-1, 0, -1))
        self.same(floor.record(), (("up", 2), ("down", 2, 1), ("relate", 0, 1), ("relate", 0, 1), ("graft", 0, -1, -1),
                                   ("graft", 2, -1, 1), ("mark",), ("graft", 0, 2, -1)))

    def test_all_single_deeds_of_small_floors(self):
        for n in (1, 2, 3):
            numbers = range(-2, n + 2)
            deeds = [("mark",)] + [("up", x) for x in numbers]
            deeds += [(word, x, y) for word in ("down", "relate", "graft") for x in numbers for y in numbers]
            for order in all_orders(n)[::n]:
                for house in all_houses(n)[::n]:
                    granted = 0
                    for deed in deeds:
                        granted += self.one_step(Floor(order, house), Model(order, house), deed)
                    self.assertGreater(granted, n)

    def test_relate_and_graft_of_16_places(self):
        with quick(10):
            floor = Floor(flat(16), (-1,) * 16)
            for x in range(15):
                floor.relate(x, x + 1)
                floor.graft(x + 1, x)
            self.assertTrue(floor.order() == chain(16))
            self.same(floor.house(), tuple(range(-1, 15)))
            for x in range(15, 0, -1):
                self.refused("BadParent", x, floor.graft, 0, x)
                self.refused("Round", x, floor.relate, x, 0)
                while floor.house()[x] != -1:
                    floor.up(x)
            self.same(floor.house(), (-1,) * 16)
            self.assertEqual(len(floor.record()), 30 + 120)

    def test_drawn_rows_of_deeds(self):
        dice = random.Random(160)
        for n, many in ((1, 5), (2, 30), (3, 80), (4, 50), (6, 30), (16, 8)):
            for _ in range(many):
                order, house = some_order(dice, n), some_house(dice, n)
                floor, model = Floor(order, house), Model(order, house)
                for _ in range(30):
                    word = dice.choice(("undo", "redo", "deed", "deed", "deed"))
                    if word == "deed":
                        self.one_step(floor, model, some_deed(dice, n, model))
                    else:
                        for _ in range(dice.randrange(1, 5)):
                            self.undo_or_redo(floor, model, word)

    def test_to_the_beginning_and_back(self):
        dice = random.Random(161)
        for n in (2, 3, 5, 16):
            order, house = some_order(dice, n), some_house(dice, n)
            floor, model = Floor(order, house), Model(order, house)
            stood = [told(floor)]
            while len(stood) < 15:
                if self.one_step(floor, model, some_deed(dice, n, model)):
                    stood.append(told(floor))
            for _ in range(2):
                for before in stood[-2::-1]:
                    floor.undo()
                    self.assertEqual(told(floor), before)
                self.refused("NothingToUndo", 0, floor.undo)
                for after in stood[1:]:
                    floor.redo()
                    self.assertEqual(told(floor), after)
                self.refused("NothingToRedo", 0, floor.redo)

    def test_what_makes_the_floor_forget(self):
        for deed in (("up", 1), ("down", 2, 1), ("relate", 1, 0), ("relate", 0, 1), ("graft", 2, 1), ("graft", 2, -1),
                     ("mark",)):
            floor = Floor(ranked((0, 1, 2)), (-1, 0, 0))
            floor.graft(2, -1)
            floor.graft(2, 0)
            floor.undo()
            floor.undo()
            bad = Model(ranked((0, 1, 2)), (-1, 0, 0)).refusal(deed)
            if bad:
                # A refused deed changes nothing, so the undone ones can still be redone.
                self.refused(*bad, call, floor, deed)
                floor.redo()
                self.refused(*Model(chain(3), (-1, 0, -1)).refusal(("up", 2)), floor.up, 2)
                floor.redo()
                self.same(floor.record(), (("graft", 2, -1, 0), ("graft", 2, 0, -1)))
            else:
                call(floor, deed)
                self.refused("NothingToRedo", 0, floor.redo)
                floor.undo()
                self.assertEqual(told(floor), (pairs_of(chain(3)), (-1, 0, 0), (-1, 0, 0), ()))
                # What can be redone now is the deed undone last alone.
                floor.redo()
                self.refused("NothingToRedo", 0, floor.redo)

    def test_the_mark_is_undone_and_redone(self):
        floor = Floor(chain(3), HOUSE)
        floor.up(2)
        floor.mark()
        floor.up(2)
        self.same(floor.marked(), (-1, 0, 0))
        floor.mark()
        self.same(floor.marked(), (-1, 0, -1))
        floor.undo()
        self.same(floor.marked(), (-1, 0, 0))
        floor.undo()
        floor.undo()
        self.same(floor.marked(), HOUSE)
        floor.redo()
        self.same((floor.marked(), floor.house()), ((-1, 0, 0), (-1, 0, 0)))

    def test_two_floors_do_not_touch_one_another(self):
        order = chain(3)
        one, two = Floor(order, HOUSE), Floor(order, HOUSE)
        one.up(2)
        one.graft(1, -1)
        one.mark()
        one.undo()
        self.assertEqual(told(two), (pairs_of(order), HOUSE, HOUSE, ()))
        self.refused("NothingToRedo", 0, two.redo)
        self.refused("NothingToUndo", 0, two.undo)
        two.relate(0, 1)
        self.same(one.record(), (("up", 2), ("graft", 1, -1, 0)))
        self.assertTrue(order == chain(3))

    def test_tuples_told_before_stay(self):
        floor = Floor(flat(3), (-1, -1, -1))
        floor.graft(1, 0)
        order, house, marked, record = floor.order(), floor.house(), floor.marked(), floor.record()
        floor.relate(0, 1)
        floor.up(1)
        floor.mark()
        floor.undo()
        self.assertTrue(order == flat(3))
        self.same((house, marked, record), ((-1, 0, -1), (-1, -1, -1), (("graft", 1, 0, -1),)))


class Limit(Case):

    def full(self, many):
        """Return a floor with so many standing deeds."""
        floor = Floor(chain(3), HOUSE)
        for _ in range(many // 2):
            floor.up(1)
            floor.down(1, 0)
        if many % 2:
            floor.mark()
        return floor

    def test_299_300_and_301(self):
        deeds = (("up", 1), ("graft", 2, 0), ("relate", 0, 1), ("mark",), ("graft", 0, -1))
        for deed in deeds:
            floor = self.full(299)
            call(floor, deed)
            self.assertEqual(len(floor.record()), 300)
            before = told(floor)
            for other in (("up", 2), ("graft", 2, -1), ("relate", 0, 2), ("mark",)):
                self.refused("TooMany", 301, call, floor, other)
            self.assertEqual(told(floor), before)
        self.refused("TooMany", 301, self.full(300).graft, 2, 0)

    def test_down_at_the_limit(self):
        floor = Floor(chain(3), (-1, -1, -1))
        for _ in range(300):
            floor.mark()
        self.refused("TooMany", 301, floor.down, 2, 0)
        floor.undo()
        floor.down(2, 0)
        self.refused("TooMany", 301, floor.up, 2)
        self.assertEqual(len(floor.record()), 300)

    def test_other_errors_come_first(self):
        floor = self.full(300)
        for name, what, deed in (
                ("BadDeed", 1, ("up", 3)), ("BadDeed", 1, ("up", -1)), ("BadDeed", 2, ("up", 0)),
                ("BadDeed", 1, ("down", 0, 3)), ("BadDeed", 2, ("down", 0, 0)), ("BadDeed", 2, ("down", 2, 0)),
                ("BadPlace", 3, ("relate", 3, 4)), ("BadPlace", 4, ("relate", 2, 4)), ("BadPlace", -1, ("relate", -1, -2)),
                ("Round", 1, ("relate", 1, 1)), ("Round", 2, ("relate", 2, 0)), ("BadPlace", 3, ("graft", 3, 3)),
                ("BadParent", 3, ("graft", 0, 3)), ("BadParent", -2, ("graft", 0, -2)), ("BadParent", 0, ("graft", 0, 0)),
                ("BadParent", 2, ("graft", 0, 2)), ("BadParent", 1, ("graft", 0, 1))):
            before = told(floor)
            self.refused(name, what, call, floor, deed)
            self.refused(name, what, call, Floor(chain(3), HOUSE), deed)
            self.assertEqual(told(floor), before)

    def test_undo_and_redo_beside_it(self):
        with quick(10):
            floor = self.full(300)
            record = floor.record()
            for _ in range(300):
                floor.undo()
            self.same(floor.record(), ())
            for _ in range(300):
                floor.redo()
            self.same(floor.record(), record)
            self.refused("NothingToRedo", 0, floor.redo)
            floor.undo()
            # A deed that is refused leaves what can be redone.
            self.refused("BadDeed", 2, floor.up, 0)
            floor.redo()
            self.refused("TooMany", 301, floor.mark)
            floor.undo()
            floor.mark()
            self.refused("NothingToRedo", 0, floor.redo)
            self.refused("TooMany", 301, floor.mark)


class Refusals(Case):

    def test_what_is_no_house(self):
        self.refuses_bad_houses(lambda house: Floor(chain(3), house))
        self.refuses_bad_houses(lambda house: Floor(house=house, order=flat(3)))

    def test_numbers_that_are_no_places(self):
        floor = Floor(chain(3), HOUSE)
        for x in NO_PLACES + (-1, 3):
            self.refused("BadDeed", 1, floor.up, x)
            for y in (0, 2, 3, -1, x):
                self.refused("BadDeed", 1, floor.down, x, y)
                self.refused("BadDeed", 1, floor.down, y, x)
                self.refused("BadPlace", x, floor.relate, x, y)
                self.refused("BadPlace", x, floor.graft, x, y)
            for good in (0, 2):
                self.refused("BadPlace", x, floor.relate, good, x)
                if x != -1:
                    self.refused("BadParent", x, floor.graft, good, x)
        self.same(floor.record(), ())

    def test_relate_and_graft_refused(self):
        floor = Floor(made_order(4, ((0, 1), (1, 2), (0, 2))), (-1, 0, 1, 0))
        for x, y in ((0, 0), (3, 3), (1, 0), (2, 1), (2, 0)):
            self.refused("Round", x, floor.relate, x, y)
        for x, p in ((0, 0), (0, 1), (0, 2), (0, 3), (1, 1), (1, 2), (2, 2), (3, 3)):
            self.refused("BadParent", p, floor.graft, x, p)
        for x, p in ((1, 3), (1, -1), (2, 3), (3, 1), (0, -1), (1, 0)):
            other = Floor(floor.order(), floor.house())
            other.graft(x, p)
            self.assertEqual(other.house()[x], p)
