"""Nearest runs between the houses of a class, up and down."""
from nearlords.boxes import box_of, size
from nearlords.boxranks import nth
from nearlords.deeds import let_deeds, moved
from nearlords.errors import TooMany
from nearlords.joined import check_joined

MOST_HOUSES = 2000


def class_of(order, house):
    """Return all houses of the class, ascending."""
    box = _listed_box(order, house)
    return tuple([nth(box, k) for k in range(size(box))])


def fewest(order, one, two):
    """Return the least number of deeds of a run from one house to another."""
    return len(nearest_run(order, one, two))


def nearest_run(order, one, two):
    """Return a run with the least number of deeds."""
    check_joined(order, one, two)
    found = _searched(order, one)
    run = []
    while two != one:
        run.append(found[two][2])
        two = found[two][1]
    return tuple(run[::-1])


def balls(order, house):
    """Return how many houses of the class are 0, 1, 2 .. deeds away."""
    far = [entry[0] for entry in _searched(order, house).values()]
    return tuple([far.count(k) for k in range(max(far) + 1)])


def _listed_box(order, house):
    """Return the box of a class, or refuse a class of too many houses."""
    box = box_of(order, house)
    many = size(box)
    if many > MOST_HOUSES:
        raise TooMany(many)
    return box


def _searched(order, house):
    """Return how far each house is, with the house and the deed before it."""
    _listed_box(order, house)
    found = {house: (0, house, None)}
    waiting = [house]
    at = 0
    while at < len(waiting):
        one = waiting[at]
        for deed in let_deeds(order, one):
            other = moved(one, deed)
            if other not in found:
                found[other] = (found[one][0] + 1, one, deed)
                waiting.append(other)
        at += 1
    return found
