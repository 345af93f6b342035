"""Climbings counted over the houses of a box."""
from nearlords.checks import DOOR
from nearlords.climbs import left_by_lords
from nearlords.depthchances import mean_depth
from nearlords.shares import plus, poly_times, share, times


def ups_counts(box):
    """Return how many houses have 0, 1, 2 .. as their fewest ups."""
    counts = (1,)
    for steps in _steps_of_rows(box):
        counts = poly_times(counts, tuple([steps.count(k) for k in range(max(steps) + 1)]))
    return counts


def climbers_counts(box):
    """Return in how many houses 0, 1, 2 .. places may go up."""
    counts = (1,)
    for lord, row in zip(box.lords, box.rows):
        # Whoever does not stand under its lord has a parent less than it.
        lower = len([parent for parent in row if parent != lord])
        at_lord = len(row) - lower
        counts = poly_times(counts, (at_lord, lower) if lower else (at_lord,))
    return counts


def mean_fewest(box):
    """Return the mean of the fewest ups over the houses of a box."""
    total = (0, 1)
    for steps in _steps_of_rows(box):
        total = plus(total, share(sum(steps), len(steps)))
    return total


def mean_most(box):
    """Return the mean of the most ups over the houses of a box."""
    depths = {DOOR: (-1, 1)}
    for x in range(box.order.n):
        depths[x] = mean_depth(box, x)
    total = (0, 1)
    # Between x and its lord stand as many as their depths differ, less one.
    for x, lord in enumerate(box.lords):
        total = plus(total, plus(depths[x], times((-1, 1), plus(depths[lord], (1, 1)))))
    return total


def _steps_of_rows(box):
    """Return for each place the steps from each parent of its row."""
    return [[len(left_by_lords(box.lords, x, parent)) for parent in row] for x, row in enumerate(box.rows)]
