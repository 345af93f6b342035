"""Plain answers to compare with, made from the words of the document."""
import itertools
from collections import deque
from fractions import Fraction

from tests.base import pairs_of


def lets(order, house):
    """Return all deeds that are let on a house, ascending."""
    pairs = pairs_of(order)
    n = len(house)
    found = [("up", x) for x in range(n) if house[x] != -1 and (house[x], x) in pairs]
    found += [("down", x, q) for x in range(n) for q in range(n)
              if q != x and house[q] == house[x] and (q, x) in pairs]
    return sorted(found)


def after(house, deed):
    """Return the house behind a deed."""
    parents = list(house)
    parents[deed[1]] = house[house[deed[1]]] if deed[0] == "up" else deed[2]
    return tuple(parents)


def walk(order, house, run):
    """Return the house behind a run, or None if a deed is not let."""
    for deed in run:
        if deed not in lets(order, house):
            return None
        house = after(house, deed)
    return house


def class_of(order, house):
    """Return the set of all houses that come of a house."""
    found = {house}
    waiting = deque([house])
    while waiting:
        one = waiting.popleft()
        for deed in lets(order, one):
            other = after(one, deed)
            if other not in found:
                found.add(other)
                waiting.append(other)
    return found


def classes(order, houses):
    """Return the class of each of the houses."""
    found = {}
    for house in houses:
        if house not in found:
            one = frozenset(class_of(order, house))
            for other in one:
                found[other] = one
    return found


def above(house, x):
    """Return all places above x, the nearest first."""
    return [] if house[x] == -1 else [house[x]] + above(house, house[x])


def lords_of(order, house):
    """Return the lords of all places."""
    pairs = pairs_of(order)
    return tuple(next((p for p in above(house, x) if (p, x) not in pairs), -1) for x in range(len(house)))


def forms_of(order, houses):
    """Return those of some houses in which no place has a parent less than it."""
    pairs = pairs_of(order)
    return [house for house in houses if not any((p, x) in pairs for x, p in enumerate(house))]


def rows_of(order, house):
    """Return the rows of the box of the class of a house."""
    return tuple(admitted_to(order, house, x) for x in range(len(house)))


def closed(pairs):
    """Return the set of all pairs that follow from some pairs, these included."""
    found = set(pairs)
    more = True
    while more:
        more = {(x, z) for x, y in found for w, z in found if y == w} - found
        found |= more
    return found


def admitted_to(order, house, x):
    """Return the parents admitted to x, found by parents in the house."""
    pairs = pairs_of(order)
    lord = lords_of(order, house)[x]
    found = [lord]
    for y in range(len(house)):
        line = [y] + above(house, y) + [-1]
        if (y, x) in pairs and next(p for p in line if (p, x) not in pairs) == lord:
            found.append(y)
    return tuple(sorted(found))


def steps_of(order, house, x):
    """Return the number of goings from the parent of x by lords to its lord."""
    form = lords_of(order, house)
    many = 0
    at = house[x]
    while at != form[x]:
        at = form[at]
        many += 1
    return many


def ups_from(order, house):
    """Return the houses behind one up each."""
    return [after(house, deed) for deed in lets(order, house) if deed[0] == "up"]


def up_reach(order, house):
    """Return the set of all houses to which runs of ups lead."""
    found = {house}
    waiting = [house]
    while waiting:
        for other in ups_from(order, waiting.pop()):
            if other not in found:
                found.add(other)
                waiting.append(other)
    return found


def up_runs(order, house, known):
    """Return the least length, how many so short, the greatest length of all runs of ups to the end."""
    if house not in known:
        nexts = [up_runs(order, other, known) for other in ups_from(order, house)]
        least = min((one[0] + 1 for one in nexts), default=0)
        many = sum(one[1] for one in nexts if one[0] + 1 == least) if nexts else 1
        known[house] = (least, many, max((one[2] + 1 for one in nexts), default=0))
    return known[house]


def distances(order, house):
    """Return for each house of the class how many deeds it is away."""
    far = {house: 0}
    waiting = deque([house])
    while waiting:
        one = waiting.popleft()
        for deed in lets(order, one):
            other = after(one, deed)
            if other not in far:
                far[other] = far[one] + 1
                waiting.append(other)
    return far


def climbings(order, house):
    """Return the single climbings, each with the set of those that it waits for at once or through others."""
    form = lords_of(order, house)
    many = [steps_of(order, house, x) for x in range(len(house))]
    waits = {}
    for x in range(len(house)):
        left = house[x]
        for i in range(1, many[x] + 1):
            waits[x, i] = {(left, j) for j in range(1, many[left] + 1)} | ({(x, i - 1)} if i > 1 else set())
            left = form[left]
    return waits


def rows_of_climbings(waits, done=frozenset()):
    """Return in how many rows each climbing stands behind those that it waits for."""
    if len(done) == len(waits):
        return 1
    ready = [one for one, needs in waits.items() if one not in done and needs <= done]
    return sum(rows_of_climbings(waits, done | {one}) for one in ready)


def longest_waiting(waits, one):
    """Return how many climbings there are in a longest row of waiting that ends with one."""
    return 1 + max((longest_waiting(waits, other) for other in waits[one]), default=0)


def houses_in(box):
    """Return all houses of a box, ascending."""
    return sorted(itertools.product(*box.rows))


def weighed_houses(box, table):
    """Return the houses of a box with a weight above 0, each with this weight."""
    found = []
    for house in houses_in(box):
        weight = 1
        if table is not None:
            for x, parent in enumerate(house):
                weight *= table[x][parent + 1]
        if weight > 0:
            found.append((house, weight))
    return found


def mean_of(weighed, worth):
    """Return the mean of what a function tells of weighed houses, as a share."""
    whole = sum(weight for _, weight in weighed)
    return pair(Fraction(sum(weight * worth(house) for house, weight in weighed), whole))


def pair(fraction):
    """Return the share of a fraction."""
    return (fraction.numerator, fraction.denominator)


def meet_of(house, x, y):
    """Return the nearest that is x or above x and y or above y."""
    line = [y] + above(house, y) + [-1]
    return next(p for p in [x] + above(house, x) + [-1] if p in line)


def ways_of(house, a, b):
    """Return the steps from a up to where they meet and down to b."""
    lines = [([p] + above(house, p) if p != -1 else []) + [-1] for p in (a, b)]
    where = next(p for p in lines[0] if p in lines[1])
    return lines[0].index(where) + lines[1].index(where)
