"""Rows for a floor: nearlords.saysfloor ([48])."""
import random

from nearlords.floor import Floor
from nearlords.floorasks import can_go_home, choices, kin, way_home, why_not
from nearlords.housetext import house_text
from nearlords.ordermakers import chain, flat, ranked
from nearlords.ordertext import order_text
from nearlords.runtext import run_text
from nearlords.saysfloor import answer, asked
from tests.base import Case, quick, some_house, some_order
from tests.test_floor import told

HOUSE = (-1, 0, 1)
ANSWERED = ("up 1", "down 2 1", "relate 0 1", "graft 2 0", "graft 2 -", "mark", "undo", "redo", "house", "order", "home")
ASKED = ("way", "why", "kin", "choices 2")

# Rows that neither of the two functions takes.
NO_ROWS = (
    "", " ", "  ", "\n", "up", "up ", " up 1", "up 1 ", "up  1", "up 1 2", "up 01", "up 16", "up -", "up -1", "up +1",
    "up 1\n", "up\t1", "up\n1", "Up 1", "UP 1", "up x", "up 1.0", "up \u0661", "up \u00b9", "up 99999999999999999999",
    "down", "down 1", "down 1 ", "down 1 2 3", "down 1 -", "down - 1", "down 16 0", "down 0 16", "down 01 0", "down 1  0",
    "relate", "relate 0", "relate 0 -", "relate - 0", "relate 0 16", "relate 0 1 2", "relate 0 01", "relate 0,1",
    "graft", "graft 1", "graft - 1", "graft 1 --", "graft 1 -1", "graft 1 16", "graft 16 -", "graft 1 - -", "graft 1  -",
    "graft 00 -", "graft 1 00", "mark ", " mark", "mark 1", "marks", "undo 1", "undo ", "redo 0", "redo\n", "house ",
    "house 1", "order -", "order\n", "home ", "home 1", "way ", "way 1", " way", "why 0", "why\n", "kin ", "kin 1",
    "choices", "choices ", "choices -", "choices 16", "choices 01", "choices 1 2", "choices  1", "choices -1", "choices x",
    "up 1;up 2", "\u00a0", "up\u00a01", "marked", "record", "-", "1", "up 1" + " " * 3000, "x" * 9000, "up " + "1" * 6000,
)


class Answer(Case):

    def test_each_deed(self):
        floor = Floor(ranked((0, 0, 1)), HOUSE)
        for row, house in (("up 2", (-1, 0, 0)), ("down 2 1", HOUSE), ("graft 2 -", (-1, 0, -1)), ("relate 0 1", (-1, 0, -1)),
                           ("graft 0 2", (2, 0, -1)), ("undo", (-1, 0, -1)), ("redo", (2, 0, -1)), ("mark", (2, 0, -1))):
            self.same(answer(floor=floor, row=row), "ok")
            self.same(floor.house(), house)
        self.assertTrue(floor.order() == chain(3))
        self.same(floor.marked(), (2, 0, -1))
        self.same(floor.record(), (("up", 2), ("down", 2, 1), ("graft", 2, -1, 1), ("relate", 0, 1), ("graft", 0, 2, -1),
                                   ("mark",)))

    def test_each_question(self):
        floor = Floor(flat(2), (-1, -1))
        self.same(answer(floor, "house"), "0 -;1 -")
        self.same(answer(floor, "order"), "places 2;0;1")
        self.same(answer(floor, "home"), "yes")
        self.same(asked(floor=floor, row="way"), "")
        self.same(asked(floor, "kin"), "1")
        self.same(asked(floor, "choices 1"), "-")
        answer(floor, "graft 1 0")
        self.same(answer(floor, "house"), "0 -;1 0")
        self.same(answer(floor, "home"), "no")
        self.same(asked(floor, "why"), "1 0 -")
        answer(floor, "relate 0 1")
        self.same(answer(floor, "home"), "yes")
        self.same(answer(floor, "order"), "places 2;0;1 0")
        self.same(asked(floor, "way"), "up 1")
        self.same(asked(floor, "choices 1"), "- 0")
        self.same(asked(floor, "kin"), "2")
        answer(floor, "graft 1 -")
        self.same(asked(floor, "way"), "")
        answer(floor, "mark")
        answer(floor, "down 1 0")
        self.same(asked(floor, "way"), "up 1")
        self.same(floor.record()[-1], ("down", 1, 0))

    def test_all_numbers(self):
        for x in range(16):
            floor = Floor(flat(16), (-1,) * 16)
            for p in range(16):
                if p != x:
                    self.same(answer(floor, f"graft {x} {p}"), "ok")
                    self.same(floor.house()[x], p)
                    self.same(answer(floor, f"graft {x} -"), "ok")
            for y in range(16):
                if y != x:
                    self.same(answer(floor, f"relate {x} {y}"), "ok")
                    self.same(answer(floor, f"down {y} {x}"), "ok")
                    self.same(asked(floor, f"choices {y}"), f"- {x}")
                    self.same(answer(floor, f"up {y}"), "ok")

    def test_drawn_rows(self):
        dice = random.Random(180)
        granted = 0
        with quick(30):
            for n, many in ((1, 3), (2, 20), (3, 60), (5, 40), (16, 15)):
                for _ in range(many):
                    order, house = some_order(dice, n), some_house(dice, n)
                    one, two = Floor(order, house), Floor(order, house)
                    for _ in range(25):
                        granted += self.row_and_call(one, two, self.some_call(dice, n))
                        self.questions(one, two)
        self.assertGreater(granted, 800)

    def some_call(self, dice, n):
        """Return a deed by chance, with numbers that are places or somewhat beyond."""
        x, y = dice.randrange(min(16, n + 1)), dice.randrange(min(16, n + 1))
        return dice.choice((("up", x), ("down", x, y), ("relate", x, y), ("graft", x, y), ("graft", x, -1), ("mark",),
                            ("undo",), ("redo",)))

    def row_and_call(self, one, two, deed):
        """Assert that a row does to one floor what the deed does to the other; return whether it is granted."""
        row = " ".join("-" if part == -1 else str(part) for part in deed)
        try:
            getattr(two, deed[0])(*deed[1:])
        except ValueError as error:
            self.refused(type(error).__name__, error.what, answer, one, row)
            self.assertEqual(told(one), told(two))
            return False
        self.same(answer(one, row), "ok")
        self.assertEqual(told(one), told(two))
        return True

    def questions(self, one, two):
        """Assert that the questions by rows are those of the other files."""
        self.same(answer(one, "house"), house_text(two.house()).replace("\n", ";"))
        self.same(answer(one, "order"), order_text(two.order()).replace("\n", ";"))
        self.same(answer(one, "home"), "yes" if can_go_home(two) else "no")
        self.same(asked(one, "kin"), str(kin(two)))
        if can_go_home(two):
            self.same(asked(one, "way"), run_text(way_home(two)).replace("\n", ";"))
            self.refused("Joined", 0, asked, one, "why")
        else:
            self.same(asked(one, "why"), " ".join(map(str, why_not(two))).replace("-1", "-"))
            self.refused("NotJoined", 0, asked, one, "way")
        for x in range(two.order().n):
            self.same(asked(one, f"choices {x}"), " ".join(map(str, choices(two, x))).replace("-1", "-"))
        self.assertEqual(told(one), told(two))


class Refusals(Case):

    def test_rows_that_are_none(self):
        floor = Floor(chain(3), HOUSE)
        floor.graft(2, 0)
        floor.undo()
        before = told(floor)
        for row in NO_ROWS:
            self.refused("BadRow", row, answer, floor, row)
            self.refused("BadRow", row, asked, floor, row)
        self.assertEqual(told(floor), before)
        floor.redo()

    def test_rows_of_the_other_one(self):
        floor = Floor(chain(3), HOUSE)
        for row in ANSWERED:
            self.refused("BadRow", row, asked, floor, row)
        for row in ASKED:
            self.refused("BadRow", row, answer, floor, row)
        self.same(floor.record(), ())

    def test_rows_with_blanks(self):
        floor = Floor(chain(3), HOUSE)
        for function, rows in ((answer, ANSWERED), (asked, ASKED)):
            for row in rows:
                for bad in (" " + row, row + " ", row + "\n", "\n" + row, row.replace(" ", "  ") + " ", row + " 0", row + " -",
                            row + ";", row.upper(), row[:-1], row * 2, row + " " + row):
                    self.refused("BadRow", bad, function, floor, bad)

    def test_errors_of_deeds_and_questions(self):
        floor = Floor(chain(3), HOUSE)
        for name, what, row in (
                ("BadDeed", 1, "up 3"), ("BadDeed", 1, "up 15"), ("BadDeed", 2, "up 0"), ("BadDeed", 1, "down 2 3"),
                ("BadDeed", 2, "down 2 0"), ("BadPlace", 3, "relate 3 4"), ("BadPlace", 15, "relate 0 15"),
                ("Round", 1, "relate 1 0"), ("Round", 2, "relate 2 2"), ("BadPlace", 3, "graft 3 3"),
                ("BadParent", 15, "graft 0 15"), ("BadParent", 1, "graft 1 1"), ("BadParent", 2, "graft 0 2"),
                ("NothingToUndo", 0, "undo"), ("NothingToRedo", 0, "redo")):
            self.refused(name, what, answer, floor, row)
        self.refused("BadPlace", 3, asked, floor, "choices 3")
        self.refused("BadPlace", 15, asked, floor, "choices 15")
        self.refused("Joined", 0, asked, floor, "why")
        floor.graft(0, -1)
        floor.graft(2, -1)
        floor.graft(0, 2)
        self.refused("NotJoined", 0, asked, floor, "way")
        for _ in range(297):
            answer(floor, "mark")
        for row in ("mark", "up 1", "relate 0 1", "graft 1 -"):
            self.refused("TooMany", 301, answer, floor, row)
        self.refused("BadDeed", 1, answer, floor, "up 3")
        self.refused("BadRow", "up 16", answer, floor, "up 16")
