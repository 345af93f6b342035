"""Houses written as texts."""
from nearlords.checks import DOOR, MOST_PLACES, place_told, rows_told, word_of
from nearlords.errors import BadText, Round
from nearlords.houses import made_house


def house_text(house):
    """Return the text of a house."""
    made_house(house)
    return "\n".join([word_of(x) + " " + word_of(parent) for x, parent in enumerate(house)])


def house_of_text(text):
    """Return the house that a text tells."""
    rows = text.split("\n")
    n = min(len(rows), MOST_PLACES)
    parents = rows_told(rows, 0, n, lambda words, x: _parent_told(words, x, n))
    try:
        return made_house(parents)
    except Round:
        raise BadText(len(rows))


def _parent_told(words, x, n):
    """Return the parent of x that the words of its row tell, or None."""
    if len(words) != 2 or words[0] != word_of(x):
        return None
    return place_told(words[1], [p for p in range(DOOR, n) if p != x])
