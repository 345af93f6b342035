"""Tables written as texts."""
from nearlords.checks import MOST_PLACES, head_told, rows_told
from nearlords.errors import BadPrice, BadText
from nearlords.tables import GREATEST, check_table

FIGURES = "0123456789"


def table_text(table):
    """Return the text of a table for as many places as it has rows."""
    n = len(table)
    if not 1 <= n <= MOST_PLACES:
        raise BadPrice(n)
    check_table(n, table)
    return "\n".join(["table " + str(n)] + [" ".join([str(number) for number in row]) for row in table])


def table_of(text):
    """Return the table that a text tells."""
    rows = text.split("\n")
    n = head_told(rows[0], "table")
    if n is None:
        raise BadText(0)
    return rows_told(rows, 1, n, lambda words, x: _numbers_told(words, n + 1))


def _numbers_told(words, many):
    """Return so many numbers that words tell, or None."""
    if len(words) != many or not all([_is_number_word(word) for word in words]):
        return None
    return tuple([int(word) for word in words])


def _is_number_word(word):
    """Tell whether a word is a number that may stand in a table."""
    # What has too many figures is not made a number at all: it may be of any length.
    if not 1 <= len(word) <= len(str(GREATEST)) or not all([sign in FIGURES for sign in word]):
        return False
    return str(int(word)) == word and int(word) <= GREATEST
