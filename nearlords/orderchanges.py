"""Orders that grow and shrink, and what becomes of lords and classes."""
from nearlords.boxes import box_of, size
from nearlords.boxranks import nth
from nearlords.checks import check_place
from nearlords.errors import BadPair, Round, TooMany, Unlike
from nearlords.lords import lords
from nearlords.nearest import MOST_HOUSES
from nearlords.nested import forms_box
from nearlords.orders import Order, greater_ones


def covers(order):
    """Return the pairs between which no place stands, ascending."""
    found = []
    for x in range(order.n):
        greater = greater_ones(order, x)
        found.extend([(x, y) for y in greater if not [z for z in order.lesser[y] if z in greater]])
    return tuple(found)


def grown(order, x, y):
    """Return the order in which x is less than y besides."""
    check_place(order.n, x)
    check_place(order.n, y)
    if x == y or y in order.lesser[x]:
        raise Round(x)
    low = order.lesser[x] + (x,)
    high = greater_ones(order, y) + (y,)
    rows = list(order.lesser)
    for z in high:
        rows[z] = tuple(sorted(set(rows[z] + low)))
    return Order(order.n, tuple(rows))


def shrunk(order, x, y):
    """Return the order without a pair that is a cover."""
    check_place(order.n, x)
    check_place(order.n, y)
    if (x, y) not in covers(order):
        raise BadPair(0)
    rows = list(order.lesser)
    rows[y] = tuple([z for z in rows[y] if z != x])
    return Order(order.n, tuple(rows))


def changed(order, other, house):
    """Return the places whose lords differ under two orders."""
    if order.n != other.n:
        raise Unlike(other.n)
    one = lords(order, house)
    two = lords(other, house)
    return tuple([x for x in range(order.n) if one[x] != two[x]])


def parted_forms(order, under, house):
    """Return the forms of the classes of under that make up a class."""
    forms = forms_box(box_of(order, house), under)
    many = size(forms)
    if many > MOST_HOUSES:
        raise TooMany(many)
    return tuple([nth(forms, k) for k in range(many)])
