"""What the document promises over the whole program: [0.3] (a) to (d)."""
import random

from nearlords.admitted import admitted, in_class
from nearlords.boxes import box_of, holds, size
from nearlords.boxranks import nth
from nearlords.boxtext import box_of_text, box_text
from nearlords.climbed import climbed
from nearlords.high import is_high
from nearlords.houses import is_house
from nearlords.housetext import house_of_text, house_text
from nearlords.joined import joined, run_between
from nearlords.judged import run_right
from nearlords.lords import lords
from nearlords.neverpapers import never_paper, never_right
from nearlords.nopapers import no_paper, no_right
from nearlords.ordertext import order_of, order_text
from nearlords.runtext import run_of, run_text
from nearlords.tabletext import table_of, table_text
from tests import oracle
from tests.base import Case, all_houses, all_orders, big_orders, kinds_of_orders, quick, some_house
from tests.test_allweighed import some_table

PAPERS = [(x, a, b) for x in range(3) for a in range(-1, 3) for b in range(-1, 3)]


def near(dice, order, house):
    """Return a house that comes of a house by some deeds by chance."""
    for _ in range(dice.randrange(12)):
        let = oracle.lets(order, house)
        if let:
            house = oracle.after(house, dice.choice(let))
    return house


def drawn_cases():
    """Return orders of up to 6 and of 16 places with a house, one of its class and any one."""
    dice = random.Random(190)
    orders = [order for order in kinds_of_orders() if order.n > 3] * 4 + big_orders() * 2
    cases = []
    for order in orders:
        house = some_house(dice, order.n)
        cases.append((order, house, near(dice, order, house), some_house(dice, order.n)))
    return cases


class Promises(Case):

    def joined_or_not(self, order, one, two, together):
        """Assert (a) of two houses, of which it is known whether they come of one another."""
        self.same(joined(order, one, two), together)
        self.same(lords(order, one) == lords(order, two), together)
        if together:
            run = run_between(order, one, two)
            self.same(run_right(order, one, run, two), True)
            self.refused("Joined", 0, no_paper, order, one, two)
        else:
            self.refused("NotJoined", 0, run_between, order, one, two)
            self.same(no_right(order, one, two, no_paper(order, one, two)), True)
            self.same(no_right(order, two, one, no_paper(order, two, one)), True)

    def test_a_for_all_small_houses(self):
        for n in (1, 2, 3):
            for order in all_orders(n):
                found = oracle.classes(order, all_houses(n))
                for one in all_houses(n):
                    for two in all_houses(n):
                        self.joined_or_not(order, one, two, two in found[one])
                        if two in found[one]:
                            self.assertFalse([paper for paper in PAPERS if no_right(order, one, two, paper)])

    def test_a_for_drawn_houses(self):
        with quick(20):
            for order, house, other, third in drawn_cases():
                self.joined_or_not(order, house, other, True)
                same = oracle.lords_of(order, house) == oracle.lords_of(order, third)
                self.joined_or_not(order, house, third, same)
                form = lords(order, house)
                for x in range(order.n):
                    for p in range(-1, order.n):
                        self.same(no_right(order, house, other, (x, form[x], p)), False)

    def one_form(self, order, house, others):
        """Assert (b) of a house and others of its class."""
        form = lords(order, house)
        self.same(is_house(form), True)
        self.same(climbed(order, house), form)
        self.same(in_class(order, house, form), True)
        for other in others:
            self.same(is_high(order, other), other == form)
            self.same(lords(order, other), form)

    def test_b_for_all_small_houses(self):
        for n in (1, 2, 3):
            for order in all_orders(n):
                for house, others in oracle.classes(order, all_houses(n)).items():
                    self.one_form(order, house, others)
                    self.assertIn(lords(order, house), others)

    def test_b_for_drawn_houses(self):
        dice = random.Random(191)
        with quick(20):
            for order, house, other, _ in drawn_cases():
                box = box_of(order, house)
                drawn = [nth(box, dice.randrange(size(box))) for _ in range(6)]
                self.one_form(order, house, [house, other, lords(order, house)] + drawn)

    def test_c_for_all_small_houses(self):
        for n in (1, 2, 3):
            for order in all_orders(n):
                for house, others in oracle.classes(order, all_houses(n)).items():
                    rows = [admitted(order, house, x) for x in range(n)]
                    for other in all_houses(n):
                        fits = all(other[x] in rows[x] for x in range(n))
                        self.assertEqual(fits, other in others)
                        self.same(in_class(order, house, other), fits)
                        self.same(holds(box_of(order, house), other), fits)
                    for x in range(n):
                        for y in range(-1, n):
                            self.never(order, house, x, y, y in rows[x])

    def never(self, order, house, x, y, fits):
        """Assert that there is a right paper just against who is not admitted."""
        paper = never_paper(order, house, x, y)
        self.assertEqual(paper is None, fits)
        if not fits:
            self.same(never_right(order, house, x, y, paper), True)

    def test_c_for_drawn_houses(self):
        dice = random.Random(192)
        with quick(30):
            for order, house, other, third in drawn_cases():
                rows = [admitted(order, house, x) for x in range(order.n)]
                self.assertEqual([admitted(order, other, x) for x in range(order.n)], rows)
                for _ in range(4):
                    chosen = tuple(dice.choice(row) for row in rows)
                    self.same(in_class(order, house, chosen), True)
                    self.same(run_right(order, house, run_between(order, house, chosen), chosen), True)
                self.same(in_class(order, house, third), all(p in row for p, row in zip(third, rows)))
                for x in range(order.n):
                    for y in range(-1, order.n):
                        self.never(order, house, x, y, y in rows[x])

    def texts(self, order, house, other, table):
        """Assert (d): all that has a text is read back as it was written, and written as it was read."""
        box = box_of(order, house)
        run = run_between(order, house, other)
        self.assertTrue(order_of(order_text(order)) == order)
        self.same(order_text(order_of(order_text(order))), order_text(order))
        self.same(house_of_text(house_text(house)), house)
        self.same(house_text(house_of_text(house_text(house))), house_text(house))
        self.same(table_of(table_text(table)), table)
        self.same(table_text(table_of(table_text(table))), table_text(table))
        self.assertTrue(box_of_text(order, other, box_text(box)) == box)
        self.same(box_text(box_of_text(order, house, box_text(box))), box_text(box))
        self.same(run_of(run_text(run)), run)
        self.same(run_text(run_of(run_text(run))), run_text(run))

    def test_d(self):
        dice = random.Random(193)
        for n in (1, 2, 3):
            for order in all_orders(n):
                for house, others in oracle.classes(order, all_houses(n)).items():
                    self.texts(order, house, dice.choice(sorted(others)), some_table(dice, n))
        with quick(20):
            for order, house, other, _ in drawn_cases():
                self.texts(order, house, other, some_table(dice, order.n))
