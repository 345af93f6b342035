"""Boxes written as texts."""
from nearlords.boxes import box_of, with_rows
from nearlords.checks import head_told, row_told, rows_told, word_of
from nearlords.errors import BadText


def box_text(box):
    """Return the text of a box."""
    rows = [" ".join([word_of(parent) for parent in row]) for row in box.rows]
    return "\n".join(["box " + str(box.order.n)] + rows)


def box_of_text(order, house, text):
    """Return the box of the class of a house with the rows that a text tells."""
    box = box_of(order, house)
    rows = text.split("\n")
    if head_told(rows[0], "box") != order.n:
        raise BadText(0)
    return with_rows(box, rows_told(rows, 1, order.n, lambda words, x: row_told(words, box.rows[x])))
