"""The parents that a place may have in the houses of a class."""
from nearlords.checks import check_place
from nearlords.houses import check_house, is_house_of
from nearlords.joined import joined
from nearlords.lords import lords


def admitted(order, house, x):
    """Return the parents admitted to x, ascending."""
    check_house(order, house)
    check_place(order.n, x)
    return admitted_by(order, lords(order, house), x)


def in_class(order, house, other):
    """Judge whether two things are houses of one class."""
    return is_house_of(order, house) and is_house_of(order, other) and joined(order, house, other)


def admitted_by(order, form, x):
    """Return the parents admitted to x in the class that has this form."""
    found = [y for y in order.lesser[x] if _first_not_less(order, form, x, y) == form[x]]
    return tuple(sorted(found + [form[x]]))


def _first_not_less(order, form, x, y):
    """Return the first of y, its lord, the lord of that .. not less than x."""
    while y in order.lesser[x]:
        y = form[y]
    return y
