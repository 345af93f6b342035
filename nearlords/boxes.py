"""Boxes: sets of houses told by a row of parents for each place."""
from nearlords.admitted import admitted_by
from nearlords.checks import DOOR
from nearlords.climbed import climbed


class Box:
    """The houses of one class that have each parent out of a row."""

    def __init__(self, order, lords, rows):
        self.order = order
        self.lords = lords
        self.rows = rows

    def __eq__(self, other):
        return (isinstance(other, Box) and self.order == other.order
                and self.lords == other.lords and self.rows == other.rows)


def box_of(order, house):
    """Return the box of the whole class of a house."""
    form = climbed(order, house)
    return Box(order, form, tuple([admitted_by(order, form, x) for x in range(order.n)]))


def size(box):
    """Return the number of houses of a box."""
    many = 1
    for row in box.rows:
        many *= len(row)
    return many


def holds(box, house):
    """Judge whether a thing is a house of a box."""
    if not isinstance(house, tuple) or len(house) != len(box.rows):
        return False
    return all([house[x] in row for x, row in enumerate(box.rows)])


def with_rows(box, rows):
    """Return the box of the same class that has other rows."""
    return Box(box.order, box.lords, rows)


def door_and_places(box):
    """Return the door, then all places, each behind the parents of its row."""
    line = [DOOR]
    while len(line) <= box.order.n:
        left = [x for x in range(box.order.n) if x not in line]
        line.extend([x for x in left if all([parent in line for parent in box.rows[x]])])
    return tuple(line)
