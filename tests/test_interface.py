"""The interface: names, files and parameters."""
import ast
import importlib
import inspect
import pathlib

from tests.base import Case

PACKAGE = pathlib.Path(__file__).resolve().parent.parent / "nearlords"

INTERFACE = {
    "shares": ("share(n, d)", "plus(a, b)", "times(a, b)", "mean(shares)", "poly_plus(a, b)", "poly_times(a, b)"),
    "determinants": ("determinant(rows)",),
    "orders": ("made_order(n, pairs)", "is_order(n, pairs)", "closed_order(n, pairs)", "less(order, x, y)"),
    "ordermakers": ("chain(n)", "flat(n)", "ranked(numbers)", "dividing(numbers)", "setwise(rows)"),
    "orderlooks": ("least_ones(order)", "greatest_ones(order)", "is_chain(order)", "row_of(order)",
                   "rows_count(order)"),
    "orderjoins": ("turned(order)", "kept(order, places)", "side(one, two)", "stacked(one, two)", "met(one, two)",
                   "is_within(one, two)"),
    "houses": ("made_house(parents)", "is_house(thing)"),
    "houseroads": ("path(house, x)", "depth(house, x)", "children(house, x)", "beneath(house, x)",
                   "meeting(house, x, y)", "ways(house, a, b)"),
    "codes": ("code(house)", "house_of(n, numbers)"),
    "housecounts": ("house_count(n)", "nth_house(n, k)", "house_rank(house)", "door_count(n, k)"),
    "deeds": ("offers(order, house)", "back_of(house, deed)"),
    "done": ("done(order, house, deed)",),
    "runs": ("walked(order, house, run)", "turned_run(order, house, run)", "ups(run)"),
    "judged": ("run_right(order, house, run, goal)",),
    "lords": ("lords(order, house)",),
    "high": ("is_high(order, house)",),
    "climbed": ("climb_run(order, house)", "climbed(order, house)"),
    "joined": ("joined(order, one, two)", "run_between(order, one, two)"),
    "admitted": ("admitted(order, house, x)", "in_class(order, house, other)"),
    "boxes": ("box_of(order, house)", "size(box)", "holds(box, house)"),
    "boxranks": ("nth(box, k)", "rank(box, house)", "drawn(box, digits)"),
    "mixes": ("mixed(order, one, two, places)",),
    "narrow": ("narrowed(box, x, parents)", "both_boxes(one, two)"),
    "climbs": ("steps(order, house, x)", "between_count(order, house, x)", "long_climb(order, house)"),
    "climbcounts": ("fewest_ups(order, house)", "most_ups(order, house)"),
    "leastclimbs": ("least_climbs(order, house)", "climb_rounds(order, house)"),
    "climbboxes": ("climb_box(order, house)", "climbs_to(order, house, other)", "climb_count(order, house)"),
    "tops": ("top_of(order, one, two)", "top_of_all(order, houses)", "common_count(order, one, two)"),
    "nearest": ("class_of(order, house)", "fewest(order, one, two)", "nearest_run(order, one, two)",
                "balls(order, house)"),
    "oneplace": ("apart(one, two)", "one_apart(order, one, two)"),
    "tables": ("checked_table(n, table)",),
    "depthchances": ("depth_chances(box, x, *, table=None)", "mean_depth(box, x, *, table=None)",
                     "depth_bounds(box, x, *, table=None)"),
    "abovechances": ("above_chance(box, x, y, *, table=None)", "sure_above(box, x, *, table=None)",
                     "may_above(box, x, *, table=None)", "beneath_mean(box, y, *, table=None)"),
    "meetchances": ("meet_chances(box, x, y, *, table=None)", "ways_mean(box, x, y, *, table=None)"),
    "childcounts": ("apart_mean(box)", "child_counts(box, y)"),
    "leafcounts": ("barren(box, places)", "leaf_counts(box)"),
    "weights": ("weighed(box, table)", "drawn_by(box, table, digits)"),
    "prices": ("cheapest(box, table)",),
    "heaps": ("heap_size(heap)", "heap_holds(heap, house)", "heap_mean_depth(heap, x)",
              "heap_above_chance(heap, x, y)", "less_box(box, other)"),
    "abovepaths": ("above_heap(box, x, y)",),
    "upcounts": ("ups_counts(box)", "climbers_counts(box)", "mean_fewest(box)", "mean_most(box)"),
    "classcounts": ("class_count(order)",),
    "nthclass": ("nth_class(order, k)", "class_rank(order, house)"),
    "doorclasses": ("door_classes(order)",),
    "allweighed": ("all_weighed(order, table)", "house_weighed(n, table)"),
    "nested": ("forms_box(box, under)", "classes_within(order, under, house)"),
    "strikes": ("strike(order, house, z)",),
    "renames": ("renamed(order, house, places)",),
    "cuts": ("cut(order, house, x)", "without_bough(order, house, x)"),
    "sets": ("set_under(one, first, two, second, p)",),
    "orderchanges": ("covers(order)", "grown(order, x, y)", "shrunk(order, x, y)", "changed(order, other, house)",
                     "parted_forms(order, under, house)"),
    "histories": ("deeds_between(order, houses)", "history_right(order, houses)", "shortened(order, houses)"),
    "nopapers": ("no_paper(order, one, two)", "no_right(order, one, two, paper)", "no_climb(order, one, other)",
                 "no_climb_right(order, one, other, x, p)"),
    "neverpapers": ("never_paper(order, house, x, y)", "never_right(order, house, x, y, row)"),
    "ordertext": ("order_text(order)", "order_of(text)"),
    "housetext": ("house_text(house)", "house_of_text(text)"),
    "tabletext": ("table_text(table)", "table_of(text)"),
    "boxtext": ("box_text(box)", "box_of_text(order, house, text)"),
    "runtext": ("run_text(run)", "run_of(text)"),
    "floorasks": ("can_go_home(floor)", "way_home(floor)", "why_not(floor)", "kin(floor)", "choices(floor, x)"),
    "saysfloor": ("answer(floor, row)", "asked(floor, row)"),
}

CLASSES = {
    "errors": ("Refused", "BadSize", "BadPair", "NotOrder", "BadRank", "BadPlace", "BadParent", "Round", "BadDeed",
               "BadRow", "BadCode", "BadCount", "NotJoined", "Joined", "Unlike", "IsLord", "TooMany", "BadPrice",
               "BadWeight", "BadNarrow", "BadText", "NothingToUndo", "NothingToRedo"),
    "orders": ("Order",),
    "boxes": ("Box",),
    "floor": ("Floor",),
}

FLOOR = ("order(self)", "house(self)", "marked(self)", "record(self)", "up(self, x)", "down(self, x, q)",
         "relate(self, x, y)", "graft(self, x, p)", "mark(self)", "undo(self)", "redo(self)")


def defined(module):
    """Return the names that a file of the package itself defines."""
    tree = ast.parse((PACKAGE / f"{module}.py").read_text())
    return {node.name for node in tree.body if isinstance(node, (ast.FunctionDef, ast.ClassDef))}


class Interface(Case):

    def test_functions(self):
        for module, lines in INTERFACE.items():
            names = defined(module)
            for line in lines:
                name = line.partition("(")[0]
                self.assertIn(name, names)
                found = getattr(importlib.import_module(f"nearlords.{module}"), name)
                self.assertEqual(f"{name}{inspect.signature(found)}", line)

    def test_classes(self):
        for module, names in CLASSES.items():
            for name in names:
                self.assertIn(name, defined(module))
                self.assertIs(type(getattr(importlib.import_module(f"nearlords.{module}"), name)), type)

    def test_methods_of_the_floor(self):
        floor = importlib.import_module("nearlords.floor").Floor
        self.assertEqual(f"Floor{inspect.signature(floor)}", "Floor(order, house)")
        for line in FLOOR:
            name = line.partition("(")[0]
            self.assertIn(name, vars(floor))
            self.assertEqual(f"{name}{inspect.signature(vars(floor)[name])}", line)

    def test_each_file_of_the_document(self):
        listed = set(INTERFACE) | set(CLASSES)
        self.assertEqual(listed - {path.stem for path in PACKAGE.glob("*.py")}, set())
        self.assertEqual({path.stem for path in PACKAGE.glob("*.py")} - listed, {"__init__", "checks"})
