"""Codes: houses written as rows of numbers."""
from nearlords.checks import DOOR, check_size
from nearlords.errors import BadCode
from nearlords.houses import made_house


def code(house):
    """Return the code of a house."""
    made_house(house)
    n = len(house)
    left = list(range(n))
    numbers = []
    while len(left) > 1:
        parents = [house[x] for x in left]
        x = max([p for p in left if p not in parents])
        left.remove(x)
        numbers.append(n if house[x] == DOOR else house[x])
    return tuple(numbers)


def house_of(n, numbers):
    """Return the house that has these numbers as its code."""
    check_size(n)
    if len(numbers) != n - 1:
        raise BadCode(len(numbers))
    for index, number in enumerate(numbers):
        if not 0 <= number <= n:
            raise BadCode((index,))
    # A place has no children left just if it is not written any more.
    written = numbers + (n,)
    left = list(range(n))
    parents = [DOOR] * n
    for k, number in enumerate(written):
        x = max([p for p in left if p not in written[k:]])
        left.remove(x)
        parents[x] = DOOR if number == n else number
    return tuple(parents)
