"""Boxes: sets of houses told by a row of parents for each place."""
from nearlords.admitted import admitted_by
from nearlords.climbed import climbed


class Box:
    """The houses of one class that have each parent out of a row."""

    def __init__(self, order, lords, rows):
        self.order = order
        self.lords = lords
        self.rows = rows

    def __eq__(self, other):
        return (isinstance(other, Box) and self.order == other.order
                and self.lords == other.lords and self.rows == other.rows)


def box_of(order, house):
    """Return the box of the whole class of a house."""
    form = climbed(order, house)
    return Box(order, form, tuple([admitted_by(order, form, x) for x in range(order.n)]))


def size(box):
    """Return the number of houses of a box."""
    many = 1
    for row in box.rows:
        many *= len(row)
    return many


def holds(box, house):
    """Judge whether a thing is a house of a box."""
    if not isinstance(house, tuple) or len(house) != len(box.rows):
        return False
    return all([house[x] in row for x, row in enumerate(box.rows)])
