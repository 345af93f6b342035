"""Plain answers to compare with, made from the words of the document."""
from collections import deque

from tests.base import pairs_of


def lets(order, house):
    """Return all deeds that are let on a house, ascending."""
    pairs = pairs_of(order)
    n = len(house)
    found = [("up", x) for x in range(n) if house[x] != -1 and (house[x], x) in pairs]
    found += [("down", x, q) for x in range(n) for q in range(n)
              if q != x and house[q] == house[x] and (q, x) in pairs]
    return sorted(found)


def after(house, deed):
    """Return the house behind a deed."""
    parents = list(house)
    parents[deed[1]] = house[house[deed[1]]] if deed[0] == "up" else deed[2]
    return tuple(parents)


def walk(order, house, run):
    """Return the house behind a run, or None if a deed is not let."""
    for deed in run:
        if deed not in lets(order, house):
            return None
        house = after(house, deed)
    return house


def class_of(order, house):
    """Return the set of all houses that come of a house."""
    found = {house}
    waiting = deque([house])
    while waiting:
        one = waiting.popleft()
        for deed in lets(order, one):
            other = after(one, deed)
            if other not in found:
                found.add(other)
                waiting.append(other)
    return found


def classes(order, houses):
    """Return the class of each of the houses."""
    found = {}
    for house in houses:
        if house not in found:
            one = frozenset(class_of(order, house))
            for other in one:
                found[other] = one
    return found


def above(house, x):
    """Return all places above x, the nearest first."""
    return [] if house[x] == -1 else [house[x]] + above(house, house[x])


def lords_of(order, house):
    """Return the lords of all places."""
    pairs = pairs_of(order)
    return tuple(next((p for p in above(house, x) if (p, x) not in pairs), -1) for x in range(len(house)))


def admitted_to(order, house, x):
    """Return the parents admitted to x, found by parents in the house."""
    pairs = pairs_of(order)
    lord = lords_of(order, house)[x]
    found = [lord]
    for y in range(len(house)):
        line = [y] + above(house, y) + [-1]
        if (y, x) in pairs and next(p for p in line if (p, x) not in pairs) == lord:
            found.append(y)
    return tuple(sorted(found))


def steps_of(order, house, x):
    """Return the number of goings from the parent of x by lords to its lord."""
    form = lords_of(order, house)
    many = 0
    at = house[x]
    while at != form[x]:
        at = form[at]
        many += 1
    return many
