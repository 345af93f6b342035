"""Children counted over the houses of a box."""
from nearlords.checks import check_place_or_door
from nearlords.shares import plus, poly_times, share


def apart_mean(box):
    """Return the mean of apart of two houses of the box."""
    total = (0, 1)
    for row in box.rows:
        total = plus(total, share(len(row) - 1, len(row)))
    return total


def child_counts(box, y):
    """Return how many houses have 0, 1, 2 .. children of y."""
    check_place_or_door(box.order.n, y)
    counts = (1,)
    for row in box.rows:
        counts = poly_times(counts, (len(row) - 1, 1) if y in row else (len(row),))
    return counts
