"""Boxes to try things with."""
import random

from nearlords.boxes import box_of
from nearlords.narrow import narrowed
from nearlords.ordermakers import chain, ranked
from tests import oracle
from tests.base import all_houses, all_orders, samples

_KEPT = {}


def class_boxes():
    """Return boxes of whole classes, of orders of 1 to 6 places of every kind."""
    if "whole" not in _KEPT:
        _KEPT["whole"] = [box for order in all_orders(1) + all_orders(2) + all_orders(3)[::2] + all_orders(4)[::24]
                          for box in boxes_of(order)]
        _KEPT["whole"] += boxes_of(chain(4)) + [box_of(chain(5), (-1,) * 5), box_of(chain(6), (-1,) * 6)]
        _KEPT["whole"] += [box_of(*case) for n in (5, 6) for case in samples(20, n)]
        _KEPT["whole"] += [box_of(ranked((3, 2, 0, 1, 4)), (2, -1, 3, 1, 2))]
    return _KEPT["whole"]


def boxes_of(order):
    """Return the boxes of all classes of an order of up to 4 places."""
    forms = sorted({oracle.lords_of(order, house) for house in all_houses(order.n)})
    return [box_of(order, form) for form in forms]


def narrow_boxes():
    """Return boxes narrowed at one place and at several."""
    if "narrow" not in _KEPT:
        dice = random.Random(20)
        wide = [box for box in class_boxes() if any(len(row) > 1 for row in box.rows)]
        _KEPT["narrow"] = [narrowed_somewhere(dice, box, often) for box in wide for often in (3, 10)]
    return _KEPT["narrow"]


def small_boxes():
    """Return all boxes that are small enough to list their houses."""
    return class_boxes() + narrow_boxes()


def narrowed_somewhere(dice, box, often):
    """Return a box narrowed by chance, at each place with a chance of often in 10."""
    for x, row in enumerate(box.rows):
        if dice.randrange(10) < often:
            many = dice.randrange(1, len(row) + 1)
            box = narrowed(box, x, tuple(sorted(dice.sample(row, many))))
    return box


def big_boxes():
    """Return boxes of 16 places, the class of a chain in one path first."""
    if "big" not in _KEPT:
        dice = random.Random(21)
        path = box_of(chain(16), tuple(range(-1, 15)))
        others = [box_of(*case) for case in samples(12, 16)]
        _KEPT["big"] = [path] + others + [narrowed_somewhere(dice, box, 4) for box in [path] * 6 + others]
    return _KEPT["big"]


def tables_for(dice, box, many):
    """Return tables for a box, with zeros at some parents but never at a whole row."""
    found = []
    for _ in range(many):
        top = dice.choice((1, 2, 9, 10 ** 9))
        rows = [[dice.choice((0, 1, top, dice.randint(0, top))) for _ in range(box.order.n + 1)] for _ in box.rows]
        for x, row in enumerate(box.rows):
            if all(rows[x][parent + 1] == 0 for parent in row):
                rows[x][dice.choice(row) + 1] = top
        found.append(tuple(map(tuple, rows)))
    return found
