"""Orders made of other orders."""
from nearlords.checks import check_places, check_size
from nearlords.errors import BadSize, Unlike
from nearlords.orders import Order, greater_ones


def turned(order):
    """Return the order in which less and greater are exchanged."""
    return Order(order.n, tuple([greater_ones(order, x) for x in range(order.n)]))


def kept(order, places):
    """Return the order of the given places alone, numbered anew."""
    if not places:
        raise BadSize(0)
    check_places(order.n, places)
    anew = {p: k for k, p in enumerate(places)}
    lesser = [tuple([anew[q] for q in order.lesser[p] if q in anew]) for p in places]
    return Order(len(places), tuple(lesser))


def side(one, two):
    """Return the order with the places of two beside those of one."""
    check_size(one.n + two.n)
    return Order(one.n + two.n, one.lesser + _behind(two, one.n))


def stacked(one, two):
    """Return the order with the places of two above those of one."""
    check_size(one.n + two.n)
    lower = tuple(range(one.n))
    return Order(one.n + two.n, one.lesser + tuple([lower + row for row in _behind(two, one.n)]))


def met(one, two):
    """Return the order that tells what both orders tell."""
    if one.n != two.n:
        raise Unlike(two.n)
    lesser = [tuple([x for x in one.lesser[y] if x in two.lesser[y]]) for y in range(one.n)]
    return Order(one.n, tuple(lesser))


def is_within(one, two):
    """Tell whether two tells all that one tells."""
    return met(one, two) == one


def _behind(order, by):
    """Return the lesser places with all numbers greater by a number."""
    return tuple([tuple([x + by for x in row]) for row in order.lesser])
