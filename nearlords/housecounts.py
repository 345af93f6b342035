"""How many houses there are, and which is the one with a number."""
from math import comb

from nearlords.checks import check_size
from nearlords.codes import code, house_of
from nearlords.errors import BadCount


def house_count(n):
    """Return the number of houses of n places."""
    check_size(n)
    return _power(n + 1, n - 1)


def nth_house(n, k):
    """Return the house whose code is k, written to the base n + 1."""
    many = house_count(n)
    if not 0 <= k < many:
        raise BadCount(k)
    digits = []
    for _ in range(n - 1):
        digits.append(k % (n + 1))
        k = k // (n + 1)
    return house_of(n, tuple(digits[::-1]))


def house_rank(house):
    """Return the number of a house."""
    number = 0
    for digit in code(house):
        number = number * (len(house) + 1) + digit
    return number


def door_count(n, k):
    """Return the number of houses of n places with just k at the door."""
    check_size(n)
    if not 1 <= k <= n:
        return 0
    return comb(n - 1, k - 1) * _power(n, n - k)


def _power(base, times):
    """Return a number multiplied by itself so many times."""
    product = 1
    for _ in range(times):
        product *= base
    return product
