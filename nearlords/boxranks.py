"""The houses of a box by their numbers."""
from nearlords.boxes import size
from nearlords.errors import BadCount
from nearlords.houses import check_house

# What the rest so far is multiplied by before the next digit is added.
STRIDE = 1000003


def nth(box, k):
    """Return the house of a box that has a number."""
    if not 0 <= k < size(box):
        raise BadCount(k)
    parents = []
    for row in box.rows[::-1]:
        parents.append(row[k % len(row)])
        k = k // len(row)
    return tuple(parents[::-1])


def rank(box, house):
    """Return the number of a house of a box."""
    check_house(box.order, house)
    number = 0
    for x, row in enumerate(box.rows):
        if house[x] not in row:
            raise BadCount(x)
        number = number * len(row) + row.index(house[x])
    return number


def drawn(box, digits):
    """Return the house of a box that some digits draw."""
    if not digits:
        raise BadCount(0)
    return nth(box, rest_of(digits, size(box)))


def rest_of(digits, many):
    """Return the number from 0 to many less 1 that some digits draw."""
    rest = 0
    for digit in digits:
        rest = (rest * STRIDE + digit) % many
    return rest
