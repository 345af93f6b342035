"""Orders written as texts."""
from nearlords.checks import head_told, row_told, rows_told, word_of
from nearlords.errors import BadText, NotOrder
from nearlords.orders import made_order


def order_text(order):
    """Return the text of an order."""
    rows = ["places " + str(order.n)]
    for y, lesser in enumerate(order.lesser):
        rows.append(" ".join([word_of(x) for x in (y,) + lesser]))
    return "\n".join(rows)


def order_of(text):
    """Return the order that a text tells."""
    rows = text.split("\n")
    n = head_told(rows[0], "places")
    if n is None:
        raise BadText(0)
    lesser = rows_told(rows, 1, n, lambda words, y: _lesser_told(words, y, n))
    try:
        return made_order(n, tuple([(x, y) for y in range(n) for x in lesser[y]]))
    except NotOrder:
        raise BadText(len(rows))


def _lesser_told(words, y, n):
    """Return the places less than y that the words of its row tell, or None."""
    if words[0] != word_of(y):
        return None
    return row_told(words[1:], [x for x in range(n) if x != y])
