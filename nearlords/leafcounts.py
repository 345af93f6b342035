"""Places without children counted over the houses of a box."""
from itertools import combinations

from nearlords.checks import check_places
from nearlords.errors import TooMany
from nearlords.shares import poly_plus, poly_times

MOST_COUNTED = 10


def barren(box, places):
    """Return the number of houses in which none of the places has a child."""
    check_places(box.order.n, places)
    many = 1
    for row in box.rows:
        many *= len([parent for parent in row if parent not in places])
    return many


def leaf_counts(box):
    """Return how many houses have 0, 1, 2 .. places without children."""
    n = box.order.n
    if n > MOST_COUNTED:
        raise TooMany(n)
    # A house with k leaves is counted once for each set of its leaves; by
    # z - 1 for each place of a set these add up to z for each leaf.
    counts = ()
    for k in range(n, -1, -1):
        counts = poly_plus(poly_times(counts, (-1, 1)), (_barren_sum(box, k),))
    return counts


def _barren_sum(box, k):
    """Return the sum of barren over all sets of k places."""
    return sum([barren(box, places) for places in combinations(range(box.order.n), k)])
