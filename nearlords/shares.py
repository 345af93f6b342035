"""Shares, which are exact fractions, and polynomials."""
from math import gcd

from nearlords.errors import BadCount


def share(n, d):
    """Return the share of the fraction n / d."""
    if d == 0:
        raise BadCount(0)
    common = gcd(n, d)
    if d < 0:
        common = -common
    return n // common, d // common


def plus(a, b):
    """Return the sum of two shares."""
    return share(a[0] * b[1] + b[0] * a[1], a[1] * b[1])


def times(a, b):
    """Return the product of two shares."""
    return share(a[0] * b[0], a[1] * b[1])


def mean(shares):
    """Return the sum of some shares divided by how many they are."""
    if not shares:
        raise BadCount(0)
    total = (0, 1)
    for one in shares:
        total = plus(total, one)
    return share(total[0], total[1] * len(shares))


def poly_plus(a, b):
    """Return the sum of two polynomials."""
    total = [0] * max(len(a), len(b))
    for k, number in enumerate(a):
        total[k] += number
    for k, number in enumerate(b):
        total[k] += number
    # Where the highest coefficients cancel, a polynomial must not end in 0.
    while total and total[-1] == 0:
        total.pop()
    return tuple(total)


def poly_times(a, b):
    """Return the product of two polynomials."""
    if not a or not b:
        return ()
    product = [0] * (len(a) + len(b) - 1)
    for j, left in enumerate(a):
        for k, right in enumerate(b):
            product[j + k] += left * right
    return tuple(product)
