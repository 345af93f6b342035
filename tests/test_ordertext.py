"""Texts of orders and of houses: nearlords.ordertext, nearlords.housetext ([43])."""
import random

from nearlords.housetext import house_of_text, house_text
from nearlords.orders import Order, made_order
from nearlords.ordermakers import chain, flat, ranked
from nearlords.ordertext import order_of, order_text
from tests.base import Case, all_houses, all_orders, big_orders, pairs_of, quick, samples, some_house
from tests.readers import read_house, read_order, spoilt_texts

C3 = "places 3\n0\n1 0\n2 0 1"
HOUSE = "0 -\n1 0\n2 1"


class OrderText(Case):

    def check(self, text):
        """Assert what a text tells, or which row of it is bad."""
        expected = read_order(text)
        if isinstance(expected, int):
            self.refused("BadText", expected, order_of, text)
            return False
        found = order_of(text=text)
        self.assertIs(type(found), Order)
        self.assertTrue(found == made_order(expected[0], tuple(expected[1])))
        self.same(order_text(found), text)
        return True

    def test_examples(self):
        self.same(order_text(chain(3)), C3)
        self.assertTrue(order_of(C3) == chain(3))
        self.same(order_text(flat(1)), "places 1\n0")
        self.same(order_text(order=ranked((1, 0, 0))), "places 3\n0 1 2\n1\n2")

    def test_read_as_written(self):
        orders = [order for n in (1, 2, 3) for order in all_orders(n)] + all_orders(4)[::3] + big_orders()
        for order in orders + [order for n in (5, 6, 10, 15) for order, _ in samples(10, n, seed=17)]:
            text = order_text(order)
            self.assertIs(type(text), str)
            self.assertTrue(order_of(text) == order)
            self.assertEqual(read_order(text), (order.n, pairs_of(order)))

    def test_one_thing_wrong(self):
        good = 0
        for order in (chain(1), chain(2), flat(2), chain(3), flat(3), ranked((0, 0, 1)), made_order(4, ((3, 0), (1, 0)))):
            texts = spoilt_texts(order_text(order))
            right = sum(self.check(text) for text in texts)
            self.assertLess(right, len(texts) // 4)
            good += right
        self.assertGreater(good, 5)

    def test_two_things_wrong(self):
        dice = random.Random(141)
        texts = spoilt_texts(C3) + spoilt_texts("places 4\n0\n1 0\n2 0\n3 0 1 2")
        for text in dice.sample(texts, 40):
            for worse in dice.sample(spoilt_texts(text), 40):
                self.check(worse)

    def test_edges(self):
        for index, text in (
                (0, ""), (0, "places"), (0, "places 0\n"), (0, "places 17\n0"), (0, "places 03\n0\n1\n2"),
                (0, "places 3 \n0\n1\n2"), (0, "Places 3\n0\n1\n2"), (0, "places\n"), (0, "places 3 3\n0\n1\n2"),
                (1, "places 3"), (1, "places 3\n"), (2, "places 3\n0"), (3, "places 3\n0\n1"), (2, "places 3\n0\n"),
                (4, "places 3\n0\n1\n2\n"), (4, "places 3\n0\n1\n2\n3"), (1, "places 3\n1\n0\n2"), (2, "places 1\n0\n"),
                (2, "places 2\n0\n1 2"), (1, "places 2\n0 0\n1"), (3, "places 3\n0\n1\n2 1 0"), (3, "places 3\n0\n1\n2 0 0"),
                # Not an order, which is told by how many rows there are, behind all bad rows.
                (4, "places 3\n0\n1 0\n2 1"), (3, "places 2\n0 1\n1 0"), (4, "places 3\n0 1\n1 2\n2 0"),
                (4, "places 3\n0\n1 0\n2 1\n"), (3, "places 3\n0 1\n1 0\n2 2"), (3, "places 2\n0 1\n1 0\n0"),
                # Of several bad rows the first one counts, a missing one too.
                (1, "places 3\n0 0\n1 1\n2 2"), (2, "places 3\n0\n1 1\n2 2\n\n"), (1, "places 3\n"), (0, "places\n\n\n"),
                (3, "places 4\n0\n1\n2 9"), (17, "places 16\n" + "\n".join(map(str, range(17))))):
            self.refused("BadText", index, order_of, text)
            self.assertEqual(read_order(text), index)

    def test_16_places(self):
        with quick(5):
            for order in big_orders():
                text = order_text(order)
                self.assertTrue(order_of(text) == order)
                self.refused("BadText", 17, order_of, text + "\n16")
                self.refused("BadText", 16, order_of, text[:text.rindex("\n")])
                self.refused("BadText", 17, order_of, text + "\n")
        self.refused("BadText", 0, order_of, "places 17\n" + "\n".join(map(str, range(17))))


class HouseText(Case):

    def check(self, text):
        """Assert what a text tells, or which row of it is bad."""
        expected = read_house(text)
        if isinstance(expected, int):
            self.refused("BadText", expected, house_of_text, text)
            return False
        self.same(house_of_text(text=text), expected)
        self.same(house_text(expected), text)
        return True

    def test_examples(self):
        self.same(house_text((-1, 0, 1)), HOUSE)
        self.same(house_of_text(HOUSE), (-1, 0, 1))
        self.same(house_text((-1,)), "0 -")
        self.same(house_of_text("0 -"), (-1,))

    def test_read_as_written(self):
        dice = random.Random(142)
        houses = [house for n in (1, 2, 3, 4) for house in all_houses(n)] + all_houses(5)[::9]
        for house in houses + [some_house(dice, n) for n in range(6, 17) for _ in range(4)]:
            text = house_text(house=house)
            self.assertEqual(text, "\n".join(f"{x} {'-' if p == -1 else p}" for x, p in enumerate(house)))
            self.same(house_of_text(text), house)

    def test_one_thing_wrong(self):
        good = 0
        for house in ((-1,), (-1, 0), (1, -1), (-1, -1, -1), (-1, 0, 1), (3, -1, 1, 1)):
            texts = spoilt_texts(house_text(house))
            good += sum(self.check(text) for text in texts)
        self.assertGreater(good, 5)

    def test_two_things_wrong(self):
        dice = random.Random(143)
        texts = spoilt_texts(HOUSE) + spoilt_texts("0 3\n1 -\n2 1\n3 1")
        for text in dice.sample(texts, 40):
            for worse in dice.sample(spoilt_texts(text), 40):
                self.check(worse)

    def test_edges(self):
        many = [f"{x} -" for x in range(2001)]
        for index, text in (
                (0, ""), (0, "\n"), (0, "0"), (0, "0 - "), (0, " 0 -"), (0, "0  -"), (0, "0 0"), (0, "0 1"), (0, "0 -1"),
                (0, "0 -\t"), (0, "1 -"), (1, "0 -\n"), (1, "0 -\n0 -"), (1, "0 -\n1 2"), (1, "0 -\n1 1"), (1, "0 -\n1 00"),
                (1, "0 -\n1 - -"), (0, "0 2\n1 2"), (2, "0 -\n1 -\n"), (2, "0 -\n1 -\n\n3 -"),
                # Round is told by how many rows there are, behind all bad rows.
                (2, "0 1\n1 0"), (3, "0 -\n1 2\n2 1"), (3, "0 1\n1 2\n2 0"), (2, "0 1\n1 0\n"), (1, "0 1\n1 1"),
                (16, "\n".join([f"{x} {(x + 1) % 16}" for x in range(16)])),
                # With more than 16 rows there are 16 places, and row 16 is one too many.
                (16, "\n".join(many[:17])), (16, "\n".join(many)), (15, "\n".join(many[:15] + ["15 16"] + many[16:20])),
                (3, "\n".join(many[:3] + ["3 16"] + many[4:17])), (16, "\n".join(many[:16] + [""])),
                (16, "\n".join(["0 1", "1 0"] + many[2:17])), (2, "\n".join(many[:2] + ["2 17"] + many[3:40]))):
            self.refused("BadText", index, house_of_text, text)
            self.assertEqual(read_house(text), index)
        self.same(house_of_text("\n".join(many[:16])), (-1,) * 16)
        self.same(house_of_text("\n".join(many[:3] + ["3 15"] + many[4:16])), (-1,) * 3 + (15,) + (-1,) * 12)

    def test_refusals(self):
        for bad, name, what in (((), "BadSize", 0), ((-1,) * 17, "BadSize", 17), ((0, -1), "BadParent", 0),
                                ((1, 5), "BadParent", 1), ((1, 0), "Round", 0), ((-1, 2, 1), "Round", 1)):
            self.refused(name, what, house_text, bad)
