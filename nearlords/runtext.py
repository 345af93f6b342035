"""Runs written as texts."""
from nearlords.checks import MOST_PLACES, place_told, rows_told, word_of
from nearlords.deeds import is_deed
from nearlords.errors import BadRow, TooMany
from nearlords.runs import MOST_DEEDS


def run_text(run):
    """Return the text of a run."""
    _check_length(run)
    for index, thing in enumerate(run):
        if not is_deed(thing) or not all([0 <= x < MOST_PLACES for x in thing[1:]]):
            raise BadRow(index)
    return "\n".join([" ".join([deed[0]] + [word_of(x) for x in deed[1:]]) for deed in run])


def run_of(text):
    """Return the run that a text tells."""
    rows = text.split("\n") if text else []
    _check_length(rows)
    return rows_told(rows, 0, len(rows), lambda words, index: _deed_told(words))


def _check_length(rows):
    """Refuse what has more rows than a run may have deeds."""
    if len(rows) > MOST_DEEDS:
        raise TooMany(len(rows))


def _deed_told(words):
    """Return the deed that words tell, or None."""
    deed = (words[0],) + tuple([place_told(word, list(range(MOST_PLACES))) for word in words[1:]])
    return deed if is_deed(deed) else None
