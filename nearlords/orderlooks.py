"""The ends of an order and its rows."""
from math import comb

from nearlords.orders import greater_ones


def least_ones(order):
    """Return the places than which no place is less."""
    return tuple([x for x in range(order.n) if not order.lesser[x]])


def greatest_ones(order):
    """Return the places than which no place is greater."""
    return tuple([x for x in range(order.n) if not greater_ones(order, x)])


def is_chain(order):
    """Tell whether all places are comparable with each other."""
    return sum([len(row) for row in order.lesser]) == comb(order.n, 2)


def row_of(order):
    """Return the row of all places, the least-numbered one always next."""
    row = []
    left = list(range(order.n))
    while left:
        x = min([p for p in left if all([q in row for q in order.lesser[p]])])
        left.remove(x)
        row.append(x)
    return tuple(row)


def rows_count(order):
    """Return in how many rows each place stands behind its lesser ones."""
    # Parts that are not comparable may be merged in any way, so their counts
    # are multiplied; only within a part are the sets of places looked through.
    many = 1
    placed = 0
    for part in _parts(order):
        placed += len(part)
        many = many * comb(placed, len(part)) * _part_count(order, part)
    return many


def _parts(order):
    """Return the places in parts that hang together by comparisons."""
    left = list(range(order.n))
    parts = []
    while left:
        part = [left[0]]
        at = 0
        while at < len(part):
            x = part[at]
            near = order.lesser[x] + greater_ones(order, x)
            part.extend([y for y in near if y not in part])
            at += 1
        left = [x for x in left if x not in part]
        parts.append(part)
    return parts


def _part_count(order, part):
    """Return the count of the rows of one part of the places."""
    needs = [(1 << x, sum([1 << y for y in order.lesser[x]])) for x in part]
    counts = {0: 1}
    for _ in part:
        counts = _one_longer(counts, needs)
    return sum(list(counts.values()))


def _one_longer(counts, needs):
    """Return the counts of rows one place longer, by the set of their places."""
    longer = {}
    for placed, many in counts.items():
        for bit, need in needs:
            if placed & bit == 0 and placed & need == need:
                longer[placed | bit] = longer.get(placed | bit, 0) + many
    return longer
