"""Orders: which places are less than which."""
from nearlords.checks import check_place, check_size, is_number, is_number_row
from nearlords.errors import BadPair, NotOrder, Refused, Round


class Order:
    """An order of n places; lesser has for each place those less than it."""

    def __init__(self, n, lesser):
        self.n = n
        self.lesser = lesser

    def __eq__(self, other):
        return isinstance(other, Order) and self.n == other.n and self.lesser == other.lesser


def made_order(n, pairs):
    """Return the order that tells exactly the pairs, "x is less than y"."""
    told = _told(n, pairs)
    for x in range(n):
        for z in range(n):
            if not told[x][z] and any([told[x][y] and told[y][z] for y in range(n)]):
                raise NotOrder((x, z))
    return _order(told)


def is_order(n, pairs):
    """Judge whether made_order makes an order of n and pairs."""
    if not is_number(n) or not isinstance(pairs, tuple):
        return False
    if not all([is_number_row(pair) and len(pair) == 2 for pair in pairs]):
        return False
    try:
        made_order(n, pairs)
    except Refused:
        return False
    return True


def closed_order(n, pairs):
    """Return the order with the fewest pairs that tells all the pairs."""
    told = _told(n, pairs)
    for y in range(n):
        for x in range(n):
            for z in range(n):
                if told[x][y] and told[y][z]:
                    told[x][z] = True
    for x in range(n):
        if told[x][x]:
            raise Round(x)
    return _order(told)


def less(order, x, y):
    """Tell whether x is less than y."""
    check_place(order.n, x)
    check_place(order.n, y)
    return x in order.lesser[y]


def greater_ones(order, x):
    """Return the places that are greater than x, ascending."""
    return tuple([y for y in range(order.n) if x in order.lesser[y]])


def _told(n, pairs):
    """Return rows in which row x tells at y whether (x, y) is a pair."""
    check_size(n)
    for index, (x, y) in enumerate(pairs):
        if x == y or not 0 <= x < n or not 0 <= y < n:
            raise BadPair(index)
    told = [[False] * n for _ in range(n)]
    for x, y in pairs:
        told[x][y] = True
    return told


def _order(told):
    """Return the order that such rows tell."""
    n = len(told)
    return Order(n, tuple([tuple([x for x in range(n) if told[x][y]]) for y in range(n)]))
