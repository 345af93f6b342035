"""What several files ask of numbers, places, rows of them and their texts."""
from nearlords.errors import BadPlace, BadSize, BadText

DOOR = -1
MOST_PLACES = 16


def is_number(thing):
    """Tell whether a thing is a number."""
    return isinstance(thing, int) and not isinstance(thing, bool)


def is_number_row(thing):
    """Tell whether a thing is a tuple of numbers."""
    return isinstance(thing, tuple) and all([is_number(part) for part in thing])


def is_ascending(numbers):
    """Tell whether each number is greater than the one before it."""
    return all([numbers[k] < numbers[k + 1] for k in range(len(numbers) - 1)])


def check_size(n):
    """Refuse what is no number of places."""
    if not 1 <= n <= MOST_PLACES:
        raise BadSize(n)


def check_place(n, x):
    """Refuse what is none of n places."""
    if not 0 <= x < n:
        raise BadPlace(x)


def check_place_or_door(n, x):
    """Refuse what is neither one of n places nor the door."""
    if x != DOOR:
        check_place(n, x)


def check_places(n, places):
    """Refuse the first number that is none of n places or does not ascend."""
    before = DOOR
    for p in places:
        if not before < p < n:
            raise BadPlace(p)
        before = p


def word_of(place):
    """Return the word of a place or of the door."""
    return "-" if place == DOOR else str(place)


def place_told(word, choices):
    """Return the one of some choices that a word tells, or None."""
    for place in choices:
        if word == word_of(place):
            return place
    return None


def row_told(words, choices):
    """Return the ascending row of some choices that words tell, or None."""
    row = [place_told(word, choices) for word in words]
    return None if None in row or not is_ascending(row) else tuple(row)


def head_told(row, word):
    """Return the number of places that a row tells behind a word, or None."""
    words = row.split(" ")
    if len(words) != 2 or words[0] != word:
        return None
    return place_told(words[1], list(range(1, MOST_PLACES + 1)))


def rows_told(rows, first, many, told):
    """Return what so many rows of a text tell, from the first on to its end.

    told(words, k) is what the words of the k-th of these rows tell, or None.
    """
    found = []
    for k in range(many):
        thing = told(rows[first + k].split(" "), k) if first + k < len(rows) else None
        if thing is None:
            raise BadText(first + k)
        found.append(thing)
    if len(rows) > first + many:
        raise BadText(first + many)
    return tuple(found)
