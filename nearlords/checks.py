"""What several files ask of numbers, places and rows of them."""
from nearlords.errors import BadPlace, BadSize

DOOR = -1
MOST_PLACES = 16


def is_number(thing):
    """Tell whether a thing is a number."""
    return isinstance(thing, int) and not isinstance(thing, bool)


def is_number_row(thing):
    """Tell whether a thing is a tuple of numbers."""
    return isinstance(thing, tuple) and all([is_number(part) for part in thing])


def is_ascending(numbers):
    """Tell whether each number is greater than the one before it."""
    return all([numbers[k] < numbers[k + 1] for k in range(len(numbers) - 1)])


def check_size(n):
    """Refuse what is no number of places."""
    if not 1 <= n <= MOST_PLACES:
        raise BadSize(n)


def check_place(n, x):
    """Refuse what is none of n places."""
    if not 0 <= x < n:
        raise BadPlace(x)


def check_place_or_door(n, x):
    """Refuse what is neither one of n places nor the door."""
    if x != DOOR:
        check_place(n, x)


def check_places(n, places):
    """Refuse the first number that is none of n places or does not ascend."""
    before = DOOR
    for p in places:
        if not before < p < n:
            raise BadPlace(p)
        before = p
