"""Heaps: nearlords.heaps, nearlords.abovepaths ([33], [34])."""
import random
from fractions import Fraction

from nearlords.abovechances import above_chance
from nearlords.abovepaths import above_heap
from nearlords.boxes import Box, box_of, size
from nearlords.depthchances import mean_depth
from nearlords.heaps import heap_above_chance, heap_holds, heap_mean_depth, heap_size, less_box
from nearlords.narrow import both_boxes, narrowed
from nearlords.ordermakers import chain, flat, ranked
from tests import oracle
from tests.base import NO_PLACES, ODD_THINGS, Case, all_houses, all_orders, nested, quick
from tests.boxcases import big_boxes, boxes_of, narrowed_somewhere, small_boxes

B = box_of(chain(3), (-1, 0, 1))
C = narrowed(B, 2, (1,))


def houses_of(heap):
    """Return all houses of the boxes of a heap, one box behind the other."""
    return [house for box in heap for house in oracle.houses_in(box)]


def heaps():
    """Return heaps of all kinds out of small boxes."""
    dice = random.Random(70)
    found = [()]
    for box in small_boxes()[::6]:
        found.append((box,))
        found.append(less_box(box, narrowed_somewhere(dice, box, 8)))
        found.append(above_heap(box, dice.randrange(box.order.n), dice.randrange(box.order.n)))
    return found


def rows_to(many):
    """Return a box of 16 places in which so many ways lead from 15 to 0, up to 255."""
    box = big_boxes()[0]
    for x in range(1, 9):
        box = narrowed(box, x, tuple(range(x)))
    return narrowed(box, 15, tuple(k + 1 for k in range(8) if many >> k & 1))


class Heaps(Case):

    def test_example(self):
        self.same(heap_mean_depth(less_box(B, C), 2), (1, 2))

    def test_by_listing(self):
        for heap in heaps():
            houses = houses_of(heap)
            self.same(heap_size(heap=heap), len(houses))
            if heap:
                weighed = [(house, 1) for house in houses]
                for x in range(heap[0].order.n):
                    mean = oracle.mean_of(weighed, lambda house: len(oracle.above(house, x)))
                    self.same(heap_mean_depth(heap=heap, x=x), mean)
                    for y in range(heap[0].order.n):
                        chance = oracle.mean_of(weighed, lambda house: y in oracle.above(house, x))
                        self.same(heap_above_chance(heap=heap, x=x, y=y), chance)

    def test_holds_just_its_houses(self):
        for heap in heaps()[::4]:
            n = heap[0].order.n if heap else 3
            houses = houses_of(heap)
            for house in all_houses(n) if n < 5 else houses:
                self.same(heap_holds(heap=heap, house=house), house in houses)

    def test_holds_nothing_of_other_forms(self):
        heap = less_box(B, C)
        self.no_judge_raises(heap_holds, (1,), [heap, (-1, 0, 0)])
        for odd in ODD_THINGS + (nested(50), (-1, 0, 1), (-1, 0), (-1, 0, 0, 0), "abc", (-1, 0, "0"), (-1, 0, (0,))):
            self.same(heap_holds(heap, odd), False)
            self.same(heap_holds((), odd), False)
        self.same(heap_holds((), (-1, 0, 0)), False)
        self.same(heap_holds((B,), (-1, 0, 1)), True)

    def test_the_heap_without_boxes(self):
        self.same(heap_size(()), 0)
        for x in (0, 1, -1, 99):
            self.refused("BadCount", 0, heap_mean_depth, (), x)
            self.refused("BadCount", 0, heap_above_chance, (), x, -x)

    def test_refusals(self):
        for heap in ((B,), less_box(B, C), above_heap(B, 2, 0)):
            for x in NO_PLACES + (-1, 3):
                self.refused("BadPlace", x, heap_mean_depth, heap, x)
                self.refused("BadPlace", x, heap_above_chance, heap, x, 0)
                self.refused("BadPlace", x, heap_above_chance, heap, x, 99)
                self.refused("BadPlace", x, heap_above_chance, heap, 1, x)

    def test_16_places(self):
        heap = above_heap(rows_to(200), 15, 0)
        self.assertEqual(len(heap), 200)
        path = big_boxes()[0]
        with quick(20):
            self.same(heap_above_chance(heap, 15, 0), (1, 1))
            self.assertGreaterEqual(Fraction(*heap_mean_depth(heap, 15)), 2)
            self.same(heap_above_chance((path,), 15, 3), (1, 5))
            self.same(heap_mean_depth((path,), 15), mean_depth(path, 15))


class LessBox(Case):

    def test_examples(self):
        heap = less_box(B, C)
        self.assertEqual([box.rows for box in heap], [((-1,), (-1, 0), (-1, 0))])
        self.assertEqual(heap_size(heap), 4)
        self.same(less_box(C, B), ())
        self.same(less_box(B, B), ())
        both = narrowed(narrowed(B, 1, (0,)), 2, (-1, 1))
        rows = [((-1,), (-1,), (-1, 0, 1)), ((-1,), (0,), (0,))]
        self.assertEqual([box.rows for box in less_box(B, both)], rows)
        # Where a place before has nothing in common, there is no further box.
        apart = less_box(narrowed(B, 1, (-1,)), narrowed(C, 1, (0,)))
        self.assertEqual([box.rows for box in apart], [((-1,), (-1,), (-1, 0, 1))])

    def test_by_listing(self):
        dice = random.Random(71)
        for box in small_boxes()[::3]:
            one, other = narrowed_somewhere(dice, box, 5), narrowed_somewhere(dice, box, 5)
            heap = less_box(box=one, other=other)
            self.assertIs(type(heap), tuple)
            left = [house for house in oracle.houses_in(one) if house not in oracle.houses_in(other)]
            self.assertEqual(sorted(houses_of(heap)), left)
            self.assertEqual([self.row_of(part, one, other) for part in heap], self.parting(one, other))
            common = both_boxes(one, other)
            self.assertEqual(heap_size(heap) + (size(common) if common else 0), size(one))
            for part in heap:
                self.assertIs(type(part), Box)
                self.assertTrue(part.order == box.order)
                self.same(part.lords, box.lords)

    def row_of(self, part, one, other):
        """Return the place at which a part differs, checking all its rows."""
        x = next(k for k, row in enumerate(part.rows) if not set(row) & set(other.rows[k]))
        rows = [tuple(sorted(set(one.rows[k]) & set(other.rows[k]))) for k in range(x)]
        rows.append(tuple(sorted(set(one.rows[x]) - set(other.rows[x]))))
        self.same(part.rows, tuple(rows) + one.rows[x + 1:])
        return x

    def parting(self, one, other):
        """Return the places at which there must be a part, ascending."""
        found = []
        for x, row in enumerate(one.rows):
            if set(row) - set(other.rows[x]):
                found.append(x)
            if not set(row) & set(other.rows[x]):
                break
        return found

    def test_16_places(self):
        dice = random.Random(72)
        with quick(5):
            for box in big_boxes():
                other = narrowed_somewhere(dice, box, 3)
                heap = less_box(box, other)
                self.assertLessEqual(len(heap), 16)
                self.assertEqual(heap_size(heap) + size(other), size(box))

    def test_refusals(self):
        self.refused("Unlike", 0, less_box, B, box_of(ranked((0, 0, 1)), (-1, 0, 1)))
        self.refused("Unlike", 0, less_box, B, box_of(flat(3), (-1, -1, -1)))
        self.refused("Unlike", 0, less_box, B, box_of(chain(4), (-1, 0, 1, 2)))
        self.refused("Unlike", 1, less_box, B, box_of(chain(3), (2, 0, -1)))
        for order in all_orders(3)[::4]:
            for one in boxes_of(order):
                for two in boxes_of(order):
                    if one.lords != two.lords:
                        self.refused("Unlike", 1, less_box, one, two)


class AboveHeap(Case):

    def test_examples(self):
        heap = above_heap(B, 2, 0)
        self.assertEqual([box.rows for box in heap], [((-1,), (-1, 0), (0,)), ((-1,), (0,), (1,))])
        self.assertEqual([size(box) for box in heap], [2, 1])
        self.same(above_heap(B, 0, 2), ())
        self.same(above_heap(B, 1, 1), ())

    def test_by_listing(self):
        for box in small_boxes()[::3]:
            for x in range(box.order.n):
                for y in range(box.order.n):
                    self.check(box, x, y)

    def check(self, box, x, y):
        heap = above_heap(box=box, x=x, y=y)
        self.assertIs(type(heap), tuple)
        found = [house for house in oracle.houses_in(box) if y in oracle.above(house, x)]
        self.assertEqual(sorted(houses_of(heap)), found)
        self.same(above_chance(box, x, y), oracle.pair(Fraction(heap_size(heap), size(box))))
        ways = [way for way in self.ways(box, x, y) if len(way) > 1]
        self.assertEqual(len(heap), len(ways))
        for part, way in zip(heap, sorted(ways)):
            rows = list(box.rows)
            for k in range(len(way) - 1):
                rows[way[k]] = (way[k + 1],)
            self.same(part.rows, tuple(rows))
            self.assertTrue(part.order == box.order)
            self.same(part.lords, box.lords)

    def ways(self, box, x, y):
        if x == y:
            return [(y,)]
        return [(x,) + way for p in box.rows[x] if p != -1 for way in self.ways(box, p, y)]

    def test_200_ways_and_more(self):
        for many in (1, 128, 199, 200):
            with quick(5):
                heap = above_heap(rows_to(many), 15, 0)
            self.assertEqual(len(heap), many)
        for many in (201, 202, 255):
            self.refused("TooMany", many, above_heap, rows_to(many), 15, 0)
        path = big_boxes()[0]
        with quick(5):
            self.refused("TooMany", 2 ** 14, above_heap, path, 15, 0)
            self.refused("TooMany", 2 ** 8, above_heap, path, 15, 6)
            self.assertEqual(len(above_heap(path, 15, 7)), 128)
            self.same(above_heap(path, 15, 15), ())
            self.same(above_heap(path, 0, 15), ())

    def test_16_places(self):
        with quick(20):
            for box in big_boxes():
                for x in (3, 9, 15):
                    for y in (0, 2, 10, 14):
                        chance = above_chance(box, x, y)
                        if abs(x - y) < 7:
                            part = Fraction(heap_size(above_heap(box, x, y)), size(box))
                            self.same(chance, oracle.pair(part))

    def test_refusals(self):
        for x in NO_PLACES + (-1, 3):
            self.refused("BadPlace", x, above_heap, B, x, 0)
            self.refused("BadPlace", x, above_heap, B, x, 99)
            self.refused("BadPlace", x, above_heap, B, 2, x)
            self.refused("BadPlace", x, above_heap, B, x, x)
        self.refused("BadPlace", 16, above_heap, big_boxes()[0], 15, 16)
