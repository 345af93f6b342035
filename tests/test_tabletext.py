"""Texts of tables, boxes and runs: nearlords.tabletext, nearlords.boxtext, nearlords.runtext ([43])."""
import random

from nearlords.boxes import Box, box_of
from nearlords.boxtext import box_of_text, box_text
from nearlords.joined import run_between
from nearlords.narrow import narrowed
from nearlords.ordermakers import chain, flat, ranked
from nearlords.runtext import run_of, run_text
from nearlords.tabletext import table_of, table_text
from tests.base import BAD_TABLES, ODD_THINGS, Case, big_orders, nested, quick, samples, some_house
from tests.boxcases import big_boxes, narrowed_somewhere, small_boxes
from tests.readers import read_box, read_run, read_table, spoilt_texts
from tests.test_allweighed import some_table

HOUSE = (-1, 0, 1)
B = box_of(chain(3), HOUSE)
BOX = "box 3\n-\n- 0\n- 0 1"
RUN = (("up", 2), ("down", 1, 0))


class TableText(Case):

    def check(self, text):
        """Assert what a text tells, or which row of it is bad."""
        expected = read_table(text)
        if isinstance(expected, int):
            self.refused("BadText", expected, table_of, text)
            return False
        self.same(table_of(text=text), expected)
        self.same(table_text(expected), text)
        return True

    def test_examples(self):
        self.same(table_text(((5, 0),)), "table 1\n5 0")
        self.same(table_of("table 1\n5 0"), ((5, 0),))
        self.same(table_text(table=((1, 2, 3), (10 ** 9, 0, 10))), "table 2\n1 2 3\n1000000000 0 10")

    def test_read_as_written(self):
        dice = random.Random(150)
        with quick(5):
            for n in range(1, 17):
                for _ in range(4):
                    table = some_table(dice, n)
                    text = table_text(table)
                    self.assertEqual(text, "\n".join([f"table {n}"] + [" ".join(map(str, row)) for row in table]))
                    self.same(table_of(text), table)

    def test_one_thing_wrong(self):
        good = 0
        for table in (((5, 0),), ((0, 0),), ((1, 2, 3), (10 ** 9, 0, 10)), ((7,) * 4,) * 3):
            good += sum(self.check(text) for text in spoilt_texts(table_text(table)))
        self.assertGreater(good, 20)

    def test_two_things_wrong(self):
        dice = random.Random(151)
        texts = spoilt_texts("table 2\n1 2 3\n1000000000 0 10")
        for text in dice.sample(texts, 40):
            for worse in dice.sample(spoilt_texts(text), 40):
                self.check(worse)

    def test_edges(self):
        wide = " ".join(["1"] * 17)
        for index, text in (
                (0, ""), (0, "table"), (0, "table 0"), (0, "table 17"), (0, "table 01\n1 1"), (0, "tables 1\n1 1"),
                (1, "table 1"), (1, "table 1\n"), (1, "table 1\n1"), (1, "table 1\n1 1 1"), (1, "table 1\n1 1 "),
                (1, "table 1\n1 01"), (1, "table 1\n1 -1"), (1, "table 1\n1 +1"), (1, "table 1\n1 -"),
                (1, "table 1\n1 1000000001"), (1, "table 1\n1 10000000000"), (1, "table 1\n1 " + "1" * 6000),
                (1, "table 1\n1 00"), (1, "table 1\n1 \u0661"), (1, "table 1\n1 \u00b2"), (1, "table 1\n1 1_0"),
                (2, "table 1\n1 1\n"), (2, "table 1\n1 1\n1 1"), (2, "table 2\n1 1 1"), (2, "table 2\n1 1 1\n1 1\n1 1 1"),
                (1, "table 2\n\n\n"), (16, "table 16\n" + "\n".join([wide] * 15)),
                (17, "table 16\n" + "\n".join([wide] * 17)), (0, "table 17\n" + "\n".join([wide + " 1"] * 17))):
            self.refused("BadText", index, table_of, text)
            self.assertEqual(read_table(text), index)
        self.same(table_of("table 1\n1000000000 999999999"), ((10 ** 9, 10 ** 9 - 1),))
        self.same(table_of("table 16\n" + "\n".join([wide] * 16)), ((1,) * 17,) * 16)

    def test_refusals(self):
        for name, what, bad in BAD_TABLES:
            if isinstance(what, tuple):
                self.refused(name, what, table_text, bad)
        for n in (0, 17, 18, 40):
            self.refused("BadPrice", n, table_text, ((1,) * (n + 1),) * n)
            self.refused("BadPrice", n, table_text, ((-1,),) * n)
        self.refused("BadPrice", (0,), table_text, ((),))
        self.refused("BadPrice", (0,), table_text, ((1, 2, 3),))
        self.refused("BadPrice", (1,), table_text, ((1, 2, 3), (1, 2)))
        self.refused("BadPrice", (15,), table_text, ((1,) * 17,) * 15 + ((1,) * 16 + (-1,),))


class BoxText(Case):

    def check(self, box, house, text):
        """Assert what a text tells, or which row of it is bad."""
        expected = read_box(text, box)
        if isinstance(expected, int):
            self.refused("BadText", expected, box_of_text, box.order, house, text)
            return False
        found = box_of_text(order=box.order, house=house, text=text)
        self.assertIs(type(found), Box)
        self.same(found.rows, expected)
        self.assertTrue(found.order == box.order)
        self.same(found.lords, box.lords)
        self.same(box_text(found), text)
        return True

    def test_examples(self):
        self.same(box_text(B), BOX)
        self.assertTrue(box_of_text(chain(3), HOUSE, BOX) == B)
        self.same(box_text(box=narrowed(B, 2, (1,))), "box 3\n-\n- 0\n1")
        self.same(box_text(box_of(flat(1), (-1,))), "box 1\n-")

    def test_read_as_written(self):
        with quick(10):
            for box in small_boxes() + big_boxes():
                for house in (box.lords, tuple(row[-1] for row in box.rows)):
                    self.assertTrue(box_of_text(box.order, house, box_text(box)) == box)

    def test_one_thing_wrong(self):
        good = 0
        for order, house in ((chain(3), HOUSE), (chain(3), (2, 0, -1)), (ranked((0, 0, 1)), HOUSE), (flat(2), (1, -1)),
                             (chain(4), (-1, 2, -1, 0)), (flat(1), (-1,))):
            box = box_of(order, house)
            good += sum(self.check(box, house, text) for text in spoilt_texts(box_text(box)))
        self.assertGreater(good, 20)

    def test_two_things_wrong(self):
        dice = random.Random(152)
        for text in dice.sample(spoilt_texts(BOX), 50):
            for worse in dice.sample(spoilt_texts(text), 50):
                self.check(B, HOUSE, worse)

    def test_boxes_of_16_places(self):
        dice = random.Random(153)
        with quick(20):
            for order in big_orders():
                house = some_house(dice, 16)
                box = box_of(order, house)
                for _ in range(3):
                    narrow = narrowed_somewhere(dice, box, 5)
                    self.assertTrue(box_of_text(order, house, box_text(narrow)) == narrow)
                    for text in dice.sample(spoilt_texts(box_text(narrow)), 20):
                        self.check(box, house, text)

    def test_edges(self):
        for index, text in (
                (0, ""), (0, "box"), (0, "box 2\n-\n-"), (0, "box 4\n-\n-\n-\n-"), (0, "box 03\n-\n-\n-"), (1, "box 3"),
                (0, "box 17\n-\n-\n-"), (1, "box 3\n"), (2, "box 3\n-"), (3, "box 3\n-\n-\n"), (4, "box 3\n-\n-\n-\n"),
                (4, "box 3\n-\n-\n-\n-"), (1, "box 3\n0\n-\n-"), (1, "box 3\n- -\n-\n-"), (2, "box 3\n-\n1\n-"),
                (2, "box 3\n-\n0 -\n-"), (3, "box 3\n-\n-\n0 0"), (3, "box 3\n-\n-\n1 0"), (3, "box 3\n-\n-\n0 2"),
                (3, "box 3\n-\n-\n0 -1"), (3, "box 3\n-\n-\n-1"), (2, "box 3\n-\n\n0 2"), (3, "box 3\n-\n-\n01"),
                (2, "box 3\n-\n-  0\n-"), (2, "box 3\n-\n-\u00a00\n-"), (1, "box 3\n\n\n\n\n")):
            self.refused("BadText", index, box_of_text, chain(3), HOUSE, text)
            self.assertEqual(read_box(text, B), index)
        self.same(box_of_text(chain(3), HOUSE, "box 3\n-\n0\n1").rows, ((-1,), (0,), (1,)))

    def test_refusals(self):
        for text in ("", BOX, "box 2\n-\n-"):
            self.refuses_bad_houses(lambda house: box_of_text(chain(3), house, text))
            self.refuses_bad_houses(lambda house: box_of_text(text=text, house=house, order=flat(3)))
        self.refused("BadText", 2, box_of_text, flat(3), (-1, -1, -1), BOX)


class RunText(Case):

    def check(self, text):
        """Assert what a text tells, or which row of it is bad."""
        expected = read_run(text)
        if isinstance(expected, int):
            self.refused("BadText", expected, run_of, text)
            return False
        self.same(run_of(text=text), expected)
        self.same(run_text(expected), text)
        return True

    def test_examples(self):
        self.same(run_text(RUN), "up 2\ndown 1 0")
        self.same(run_of("up 2\ndown 1 0"), RUN)
        self.same(run_text(run=()), "")
        self.same(run_of(""), ())
        # Whether a deed is let, and whether its places may be, is not looked at.
        self.same(run_of("up 15\ndown 0 0"), (("up", 15), ("down", 0, 0)))

    def test_read_as_written(self):
        deeds = [("up", x) for x in range(16)] + [("down", x, q) for x in range(16) for q in range(16)]
        self.same(run_of(run_text(tuple(deeds))), tuple(deeds))
        for n in (2, 4, 6, 16):
            for order, house in samples(10, n):
                run = run_between(order, house, house)
                self.assertEqual(run_text(run), "\n".join(" ".join(map(str, deed)) for deed in run))
                self.same(run_of(run_text(run)), run)

    def test_one_thing_wrong(self):
        good = 0
        for run in ((), (("up", 0),), RUN, (("down", 15, 10), ("up", 12), ("down", 3, 3))):
            good += sum(self.check(text) for text in spoilt_texts(run_text(run)))
        self.assertGreater(good, 20)

    def test_two_things_wrong(self):
        dice = random.Random(154)
        for text in dice.sample(spoilt_texts("up 2\ndown 1 0"), 40):
            for worse in dice.sample(spoilt_texts(text), 40):
                self.check(worse)

    def test_edges(self):
        for index, text in (
                (0, "\n"), (0, " "), (0, "up"), (0, "up 1 2"), (0, "down 1"), (0, "down 1 2 3"), (0, "up -"),
                (0, "up 16"), (0, "up 01"), (0, "up -1"), (0, "up  1"), (0, "up 1 "), (0, " up 1"), (0, "Up 1"),
                (0, "down 1 16"), (0, "down 1 -"), (0, "up\t1"), (0, "up \u0661"), (0, "up \uff11"), (0, "up \u00b9"),
                (1, "up 1\n"), (1, "up 1\n\nup 1"), (2, "up 1\nup 2\nup"), (0, "\nup 1"), (0, "up x\nup"), (0, "mark")):
            self.refused("BadText", index, run_of, text)
            self.assertEqual(read_run(text), index)

    def test_2000_and_2001_rows(self):
        rows = ["up 1", "down 1 0"] * 1000
        with quick(5):
            run = run_of("\n".join(rows))
            self.assertEqual(run, (("up", 1), ("down", 1, 0)) * 1000)
            self.same(run_text(run), "\n".join(rows))
            self.refused("TooMany", 2001, run_of, "\n".join(rows + ["up 1"]))
            self.refused("TooMany", 2001, run_of, "\n".join(rows) + "\n")
            self.refused("TooMany", 2001, run_of, "\n" * 2000)
            self.refused("TooMany", 5000, run_of, "\n".join(["x"] * 5000))
            self.refused("BadText", 1999, run_of, "\n".join(rows[:1999] + [""]))
            self.refused("BadText", 0, run_of, "\n" * 1999)
            self.refused("TooMany", 2001, run_text, (("up", 1),) * 2001)
            self.refused("TooMany", 2001, run_text, ("x",) * 2001)

    def test_things_that_are_no_deeds(self):
        odd = ODD_THINGS + (nested(50), ("up",), ("down",), ("up", 1, 2), ("down", 1), ("down", 1, 2, 3), ("up", "1"),
                            ("down", 1, "0"), ("up", (1,)), ("up", 16), ("up", -1), ("down", 16, 0), ("down", 0, 16),
                            ("down", 0, -1), ("down", -1, 0), ("up", 10 ** 40), ("mark",), ("Up", 1), (("up",), 1),
                            ("up", None), None, [("up", 1)], ["up", 1])
        for thing in odd:
            if thing == ("up", 1):
                continue
            self.refused("BadRow", 0, run_text, (thing,))
            self.refused("BadRow", 0, run_text, (thing, ()))
            self.refused("BadRow", 2, run_text, RUN + (thing, thing) + RUN)
        self.same(run_text((("up", 15), ("down", 0, 15))), "up 15\ndown 0 15")
