"""Paths, depths, children, meetings and ways: nearlords.houseroads ([8], [9])."""
from collections import deque

from nearlords.houseroads import beneath, children, depth, meeting, path, ways
from tests.base import NO_PLACES, Case, all_houses, samples


def line(house, x):
    """Return x and all above it up to the door."""
    return [x] if x == -1 else [x] + line(house, house[x])


def distances(house, a):
    """Return the number of steps from a to each place and the door."""
    near = {x: [house[x]] for x in range(len(house))}
    near[-1] = []
    for x, parent in enumerate(house):
        near[parent].append(x)
    found = {a: 0}
    waiting = deque([a])
    while waiting:
        x = waiting.popleft()
        for y in near[x]:
            if y not in found:
                found[y] = found[x] + 1
                waiting.append(y)
    return found


HOUSES = ([house for n in (1, 2, 3, 4) for house in all_houses(n)]
          + [house for n in (5, 6, 16) for _, house in samples(12, n)]
          + [tuple(range(-1, 15)), (-1,) * 16, (15,) * 15 + (-1,)])
ONE_ARGUMENT = (path, depth, children, beneath)
TWO_ARGUMENTS = (meeting, ways)


class Roads(Case):

    def test_example(self):
        self.same(path((-1, 0, 1), 2), (1, 0, -1))
        self.same(depth((-1, 0, 1), 2), 2)

    def test_each_place(self):
        for house in HOUSES:
            n = len(house)
            for x in range(n):
                above = line(house, x)[1:]
                self.same(path(house, x), tuple(above))
                self.same(depth(house, x), len(above) - 1)
                self.same(beneath(house, x), tuple(y for y in range(n) if x in line(house, y)[1:]))
            for x in range(-1, n):
                self.same(children(house, x), tuple(y for y in range(n) if house[y] == x))

    def test_each_two(self):
        for house in HOUSES:
            n = len(house)
            for x in range(n):
                for y in range(n):
                    self.same(meeting(house, x, y), next(z for z in line(house, x) if z in line(house, y)))
            for a in range(-1, n):
                far = distances(house, a)
                for b in range(-1, n):
                    self.same(ways(house, a, b), far[b])

    def test_ends(self):
        house = (-1, 0, 1, 0, -1)
        self.same(meeting(house, 2, 2), 2)
        self.same(meeting(house, 2, 1), 1)
        self.same(meeting(house, 1, 2), 1)
        self.same(meeting(house, 2, 3), 0)
        self.same(meeting(house, 2, 4), -1)
        self.same(ways(house, -1, -1), 0)
        self.same(ways(house, 2, 2), 0)
        self.same(ways(house, 2, -1), 3)
        self.same(ways(house, -1, 2), 3)
        self.same(ways(house, 2, 3), 3)
        self.same(ways(house, 2, 4), 4)
        self.same(path((-1,), 0), (-1,))
        self.same(children((-1,), 0), ())
        self.same(children((-1,), -1), (0,))

    def test_names(self):
        house = (-1, 0)
        self.same(path(x=1, house=house), (0, -1))
        self.same(depth(x=1, house=house), 1)
        self.same(children(x=0, house=house), (1,))
        self.same(beneath(x=0, house=house), (1,))
        self.same(meeting(y=0, x=1, house=house), 0)
        self.same(ways(b=-1, a=0, house=house), 1)

    def test_bad_houses(self):
        for name, what, bad in (("BadSize", 0, ()), ("BadSize", 17, (-1,) * 17), ("BadParent", 1, (1, 1)),
                                ("BadParent", 0, (-2,)), ("Round", 0, (1, 0)), ("Round", 1, (-1, 2, 1))):
            for function in ONE_ARGUMENT:
                self.refused(name, what, function, bad, 0)
                self.refused(name, what, function, bad, 99)
            for function in TWO_ARGUMENTS:
                self.refused(name, what, function, bad, 0, 0)
                self.refused(name, what, function, bad, 99, 98)

    def test_no_places(self):
        for bad in NO_PLACES + (3,):
            for function in ONE_ARGUMENT:
                self.refused("BadPlace", bad, function, (-1, 0, 1), bad)
            for function in TWO_ARGUMENTS:
                self.refused("BadPlace", bad, function, (-1, 0, 1), bad, 0)
                self.refused("BadPlace", bad, function, (-1, 0, 1), 0, bad)
                self.refused("BadPlace", bad, function, (-1, 0, 1), bad, 77)

    def test_where_the_door_is_let(self):
        house = (-1, 0, 1)
        for function in (path, depth, beneath):
            self.refused("BadPlace", -1, function, house, -1)
        self.refused("BadPlace", -1, meeting, house, -1, 0)
        self.refused("BadPlace", -1, meeting, house, 0, -1)
        self.refused("BadPlace", -1, meeting, house, -1, -1)
        self.same(children(house, -1), (0,))
        self.same(ways(house, -1, 1), 2)
