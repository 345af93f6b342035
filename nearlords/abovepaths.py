"""The heap of the houses of a box in which one place stands above another."""
from nearlords.boxes import door_and_places, with_rows
from nearlords.checks import DOOR, check_place
from nearlords.errors import TooMany

MOST_WAYS = 200


def above_heap(box, x, y):
    """Return the heap of the houses in which y stands above x, by ways."""
    check_place(box.order.n, x)
    check_place(box.order.n, y)
    if x == y:
        return ()
    counts = _way_counts(box, y)
    if counts[x] > MOST_WAYS:
        raise TooMany(counts[x])
    return tuple([_box_along(box, way) for way in _ways_from(box, counts, x, y)])


def _way_counts(box, y):
    """Return for the door and each place how many ways lead from it to y."""
    counts = {}
    for x in door_and_places(box):
        if x == DOOR:
            counts[x] = 0
        elif x == y:
            counts[x] = 1
        else:
            counts[x] = sum([counts[parent] for parent in box.rows[x]])
    return counts


def _ways_from(box, counts, x, y):
    """Return all ways from x to y, ascending."""
    if x == y:
        return [(y,)]
    nexts = [parent for parent in box.rows[x] if counts[parent] > 0]
    return [(x,) + way for parent in nexts for way in _ways_from(box, counts, parent, y)]


def _box_along(box, way):
    """Return the box in which each place of a way has just the next one."""
    rows = list(box.rows)
    for x, parent in zip(way, way[1:]):
        rows[x] = (parent,)
    return with_rows(box, tuple(rows))
