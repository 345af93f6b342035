"""The classes of an order by how many places stand at the door."""
from nearlords.classcounts import forms_weight
from nearlords.shares import poly_plus, poly_times


def door_classes(order):
    """Return how many forms have 0, 1, 2 .. places at the door."""
    # Each place at the door counts z times, at as many z as tell the polynomial.
    worths = [_worth_at(order, z) for z in range(order.n + 1)]
    counts = ()
    for k in reversed(range(order.n + 1)):
        counts = poly_plus(poly_times(counts, (-k, 1)), (_difference(worths[:k + 1]),))
    return counts


def _worth_at(order, z):
    """Return the worth of the polynomial at z."""
    return forms_weight(order, ((z,) + (1,) * order.n,) * order.n)


def _difference(worths):
    """Return the divided difference of the worths at 0, 1, 2 .."""
    # Of a polynomial of whole numbers all divided differences are whole.
    for by in range(1, len(worths)):
        worths = [(worths[j + 1] - worths[j]) // by for j in range(len(worths) - 1)]
    return worths[0]
