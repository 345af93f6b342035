"""Tables: nearlords.tables, and the parameter table wherever it stands ([27])."""
from nearlords.abovechances import above_chance, beneath_mean, may_above, sure_above
from nearlords.boxes import box_of
from nearlords.depthchances import depth_bounds, depth_chances, mean_depth
from nearlords.meetchances import meet_chances, ways_mean
from nearlords.narrow import narrowed
from nearlords.ordermakers import chain
from nearlords.prices import cheapest
from nearlords.tables import checked_table
from nearlords.weights import drawn_by, weighed
from tests.base import NO_PLACES, ROW, Case, quick

B = box_of(chain(3), (-1, 0, 1))

# Each function that takes a table by name, with numbers of places that it takes.
CHANCES = (
    (depth_chances, 1), (mean_depth, 1), (depth_bounds, 1), (above_chance, 2), (sure_above, 1), (may_above, 1),
    (beneath_mean, 1), (meet_chances, 2), (ways_mean, 2),
)


class Checked(Case):

    def test_tables_come_back(self):
        for n in range(1, 17):
            for number in (0, 1, 7, 10 ** 9):
                table = ((number,) * (n + 1),) * n
                self.same(checked_table(n=n, table=table), table)
        table = ((1, 0, 0, 0), (2, 3, 0, 10 ** 9), (1, 1, 1, 0))
        self.same(checked_table(3, table), table)

    def test_refusals(self):
        self.refuses_bad_tables(lambda table: checked_table(3, table))
        for n in (0, 17, -1, 18, 10 ** 40, -10 ** 40):
            for table in ((), (ROW,) * 3, ((-1,),), ((),) * 17):
                self.refused("BadSize", n, checked_table, n, table)
        self.refused("BadPrice", 3, checked_table, 1, (ROW,) * 3)
        self.refused("BadPrice", (0,), checked_table, 1, ((1,),))
        self.refused("BadPrice", (0,), checked_table, 1, ((1, 1, 1),))
        self.refused("BadPrice", (15,), checked_table, 16, ((1,) * 17,) * 15 + ((1,) * 16,))
        self.refused("BadPrice", (15,), checked_table, 16, ((1,) * 17,) * 15 + ((1,) * 16 + (10 ** 9 + 1,),))


class Weighed(Case):

    def test_bad_tables_everywhere(self):
        for function, many in CHANCES:
            for x in range(3):
                places = (x, 1)[:many]
                self.refuses_bad_tables(lambda table: function(B, *places, table=table))
        self.refuses_bad_tables(lambda table: weighed(B, table))
        self.refuses_bad_tables(lambda table: cheapest(B, table))
        for digits in ((7,), ()):
            self.refuses_bad_tables(lambda table: drawn_by(B, table, digits))

    def test_no_weight_at_any_place(self):
        none = (0, 0, 0, 0)
        for x, table in ((0, (none, ROW, ROW)), (1, (ROW, none, ROW)), (2, (ROW, ROW, none)), (0, (none,) * 3),
                         (1, (ROW, none, none)), (0, ((0, 1, 1, 1), ROW, ROW)), (1, (ROW, (0, 0, 1, 1), ROW)),
                         (2, (ROW, ROW, (0, 0, 0, 1))), (0, ((0, 1, 1, 1), ROW, none))):
            for function, many in CHANCES:
                for place in range(3):
                    self.refused("BadWeight", x, function, B, *(place, 0)[:many], table=table)
            self.refused("BadWeight", x, drawn_by, B, table, (7,))
            self.refused("BadWeight", x, drawn_by, B, table, ())
            self.same(weighed(B, table), 0)

    def test_only_the_rows_of_the_box_count(self):
        narrow = narrowed(narrowed(B, 1, (0,)), 2, (1,))
        used = ((1, 0, 0, 0), (0, 1, 0, 0), (0, 0, 1, 0))
        for function, many in CHANCES:
            self.same(function(narrow, *(2, 0)[:many], table=used), function(narrow, *(2, 0)[:many]))
            self.refused("BadWeight", 1, function, narrow, *(2, 0)[:many], table=(ROW, (1, 0, 1, 1), ROW))
            self.refused("BadWeight", 2, function, narrow, *(0, 0)[:many], table=(ROW, ROW, (1, 1, 0, 1)))

    def test_places_come_before_tables(self):
        for bad in ((), (ROW,), ((0,) * 4,) * 3, (ROW, ROW, (1, 1, 1, -1))):
            for x in NO_PLACES + (3,):
                for function, many in CHANCES:
                    self.refused("BadPlace", x, function, B, *(x, 9)[:many], table=bad)
                    if many == 2:
                        self.refused("BadPlace", x, function, B, 1, x, table=bad)

    def test_by_name_alone(self):
        for function, many in CHANCES:
            places = (2, 0)[:many]
            self.assertEqual(function(B, *places, table=None), function(B, *places))
            self.assertEqual(function(B, *places, table=((5,) * 4, (2,) * 4, (10 ** 9,) * 4)), function(B, *places))
            with self.assertRaises(TypeError):
                function(B, *places, None)

    def test_16_places_quickly(self):
        box = box_of(chain(16), tuple(range(-1, 15)))
        table = tuple(tuple(10 ** 9 - (x * 17 + k) ** 3 for k in range(17)) for x in range(16))
        for given in (None, table):
            for function, many in CHANCES:
                with quick(5):
                    for x in range(16):
                        function(box, *(x, 15 - x)[:many], table=given)
