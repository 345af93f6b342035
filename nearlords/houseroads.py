"""Roads in a house: up to the door, down beneath a place, between two."""
from nearlords.checks import DOOR, check_place, check_place_or_door
from nearlords.houses import made_house


def path(house, x):
    """Return x's parent, its parent, and so on up to the door."""
    _check_place_in(house, x)
    return _line(house, x)[1:]


def depth(house, x):
    """Return how many places stand above x."""
    return len(path(house, x)) - 1


def children(house, x):
    """Return the places whose parent x is; x may be the door."""
    made_house(house)
    check_place_or_door(len(house), x)
    return tuple([y for y, parent in enumerate(house) if parent == x])


def beneath(house, x):
    """Return all places that stand beneath x."""
    _check_place_in(house, x)
    return tuple([y for y in range(len(house)) if x in _line(house, y)[1:]])


def meeting(house, x, y):
    """Return the nearest that is x or above x and is y or above y."""
    _check_place_in(house, x)
    check_place(len(house), y)
    return _first_common(_line(house, x), _line(house, y))


def ways(house, a, b):
    """Return the number of steps between two places or the door."""
    made_house(house)
    check_place_or_door(len(house), a)
    check_place_or_door(len(house), b)
    left = _line(house, a)
    right = _line(house, b)
    where = _first_common(left, right)
    return left.index(where) + right.index(where)


def _check_place_in(house, x):
    """Refuse what is no house, then what is no place of it."""
    made_house(house)
    check_place(len(house), x)


def _line(house, a):
    """Return a itself, its parent and so on up to the door."""
    line = [a]
    while line[-1] != DOOR:
        line.append(house[line[-1]])
    return tuple(line)


def _first_common(left, right):
    """Return the first entry of one line that the other has as well."""
    return [a for a in left if a in right][0]
