"""Heaps: boxes of one class without common houses."""
from nearlords.abovechances import above_chance
from nearlords.boxes import holds, size, with_rows
from nearlords.depthchances import mean_depth
from nearlords.errors import BadCount
from nearlords.narrow import both_rows, check_one_class
from nearlords.shares import plus, share, times


def heap_size(heap):
    """Return the number of houses of all boxes of a heap."""
    return sum([size(box) for box in heap])


def heap_holds(heap, house):
    """Judge whether a thing is a house of one of the boxes."""
    return any([holds(box, house) for box in heap])


def heap_mean_depth(heap, x):
    """Return the mean of the depth of x over all houses of a heap."""
    return _mean_by_size(heap, [mean_depth(box, x) for box in heap])


def heap_above_chance(heap, x, y):
    """Return the chance that y stands above x in a house of a heap."""
    return _mean_by_size(heap, [above_chance(box, x, y) for box in heap])


def less_box(box, other):
    """Return the heap of the houses of one box that are not in another one."""
    check_one_class(box, other)
    heap = []
    common = ()
    for x, row in enumerate(box.rows):
        rest = tuple([parent for parent in row if parent not in other.rows[x]])
        if rest and () not in common:
            heap.append(with_rows(box, common + (rest,) + box.rows[x + 1:]))
        common += (both_rows(row, other.rows[x]),)
    return tuple(heap)


def _mean_by_size(heap, shares):
    """Return the mean of a share for each box, weighed by the boxes' sizes."""
    if not heap:
        raise BadCount(0)
    total = (0, 1)
    for box, one in zip(heap, shares):
        total = plus(total, times((size(box), 1), one))
    return times(total, share(1, heap_size(heap)))
