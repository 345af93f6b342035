"""Determinants of squares of numbers."""
from nearlords.errors import BadRow, BadSize

MOST_ROWS = 16


def determinant(rows):
    """Return the determinant of a square of numbers."""
    if len(rows) > MOST_ROWS:
        raise BadSize(len(rows))
    for index, row in enumerate(rows):
        if len(row) != len(rows):
            raise BadRow(index)
    return _worth([list(row) for row in rows])


def _worth(square):
    """Return the determinant of a square of lists, which is used up."""
    # Bareiss: each division is without a remainder, so all stays whole.
    sign = 1
    divisor = 1
    for k in range(len(square)):
        pivot = _row_with_pivot(square, k)
        if pivot is None:
            return 0
        if pivot != k:
            square[k], square[pivot] = square[pivot], square[k]
            sign = -sign
        _clear_below(square, k, divisor)
        divisor = square[k][k]
    return sign * divisor


def _row_with_pivot(square, k):
    """Return the first row from k on without a 0 in column k, or None."""
    for j in range(k, len(square)):
        if square[j][k] != 0:
            return j
    return None


def _clear_below(square, k, divisor):
    """Work out anew what stands below and right of the pivot k."""
    pivot = square[k][k]
    for j in range(k + 1, len(square)):
        for i in range(k + 1, len(square)):
            square[j][i] = (square[j][i] * pivot - square[j][k] * square[k][i]) // divisor
