"""Orders made of numbers, of divisors and of rows."""
from nearlords.checks import check_size, is_ascending
from nearlords.errors import BadRank
from nearlords.orders import Order


def chain(n):
    """Return the order in which x is less than y if its number is."""
    check_size(n)
    return Order(n, tuple([tuple(range(y)) for y in range(n)]))


def flat(n):
    """Return the order in which no place is less than any."""
    check_size(n)
    return Order(n, ((),) * n)


def ranked(numbers):
    """Return the order of the places by their numbers."""
    check_size(len(numbers))
    return _compared(numbers, lambda a, b: a < b)


def dividing(numbers):
    """Return the order in which what divides another number is less."""
    check_size(len(numbers))
    for index, number in enumerate(numbers):
        if number < 1:
            raise BadRank(index)
    return _compared(numbers, lambda a, b: a != b and b % a == 0)


def setwise(rows):
    """Return the order in which what another row has besides is less."""
    check_size(len(rows))
    for index, row in enumerate(rows):
        if not is_ascending(row):
            raise BadRank(index)
    return _compared(rows, lambda a, b: a != b and len(set(a) - set(b)) == 0)


def _compared(things, is_less):
    """Return the order of places that compare as their things do."""
    n = len(things)
    lesser = [tuple([x for x in range(n) if is_less(things[x], things[y])]) for y in range(n)]
    return Order(n, tuple(lesser))
