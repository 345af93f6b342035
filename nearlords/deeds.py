"""Deeds: lifting a place up, bringing it down under a brother."""
from nearlords.checks import DOOR, is_number
from nearlords.errors import BadDeed
from nearlords.houses import check_house, made_house


def offers(order, house):
    """Return all deeds that are let, ascending."""
    check_house(order, house)
    return let_deeds(order, house)


def let_deeds(order, house):
    """Return all deeds that are let on a house of an order, ascending."""
    downs = [("down", x, q) for x in range(order.n) for q in order.lesser[x]]
    ups = [("up", x) for x in range(order.n)]
    return tuple([deed for deed in downs + ups if is_let(order, house, deed)])


def back_of(house, deed):
    """Return the deed that takes a deed back, without regard to any order."""
    made_house(house)
    check_deed(house, deed)
    if not _may_be_at_all(house, deed):
        raise BadDeed(2)
    return taking_back(house, deed)


def check_deed(house, deed):
    """Refuse what has not the form of a deed, then numbers of no places."""
    if not is_deed(deed):
        raise BadDeed(0)
    if not _has_places(house, deed):
        raise BadDeed(1)


def is_deed(thing):
    """Tell whether a thing has one of the two forms of deeds."""
    if not isinstance(thing, tuple) or len(thing) not in (2, 3):
        return False
    word = "up" if len(thing) == 2 else "down"
    return thing[0] == word and all([is_number(part) for part in thing[1:]])


def may_be_done(order, house, thing):
    """Tell whether a thing is a deed that is let on a house."""
    return is_deed(thing) and _has_places(house, thing) and is_let(order, house, thing)


def is_let(order, house, deed):
    """Tell whether a deed with places of the house is let."""
    x = deed[1]
    if deed[0] == "up":
        return house[x] in order.lesser[x]
    return house[deed[2]] == house[x] and deed[2] in order.lesser[x]


def moved(house, deed):
    """Return the house behind a deed."""
    x = deed[1]
    parent = house[house[x]] if deed[0] == "up" else deed[2]
    return house[:x] + (parent,) + house[x + 1:]


def taking_back(house, deed):
    """Return the deed that takes back a deed done on a house."""
    if deed[0] == "up":
        return ("down", deed[1], house[deed[1]])
    return ("up", deed[1])


def _may_be_at_all(house, deed):
    """Tell whether a deed could be let under some order."""
    x = deed[1]
    if deed[0] == "up":
        return house[x] != DOOR
    return deed[2] != x and house[deed[2]] == house[x]


def _has_places(house, deed):
    """Tell whether all numbers of a deed are places of the house."""
    return all([0 <= x < len(house) for x in deed[1:]])
