"""The chances of where two places of a box meet, and how far they are."""
from nearlords.checks import DOOR, check_place, check_place_or_door
from nearlords.shares import share
from nearlords.tables import chance_rows, mean_weight, whole_weight


def meet_chances(box, x, y, *, table=None):
    """Return the pairs of a place or the door and the chance to meet there."""
    check_place(box.order.n, x)
    check_place(box.order.n, y)
    likely = chance_rows(box, table)
    whole = whole_weight(likely)
    chances = []
    for z in range(DOOR, box.order.n):
        weight = _pair_weight(likely, x, y, {z: whole}, 0)
        if weight > 0:
            chances.append((z, share(weight, whole)))
    return tuple(chances)


def ways_mean(box, x, y, *, table=None):
    """Return the mean of the ways between two places or the door."""
    check_place_or_door(box.order.n, x)
    check_place_or_door(box.order.n, y)
    likely = chance_rows(box, table)
    whole = whole_weight(likely)
    return share(_pair_weight(likely, x, y, {}, whole), whole)


def _pair_weight(likely, x, y, ends, step):
    """Return the weight that x and y gather till they meet.

    Of two different ones the later one goes on to its parent, as the earlier
    one can never stand beneath it; each going adds step. Where both are the
    same, ends tells what is added.
    """
    line = [DOOR] + list(likely)
    line = line[:max(line.index(x), line.index(y)) + 1]
    found = {}
    for late in line:
        found[late] = {late: ends.get(late, 0)}
        for early in line[:line.index(late)]:
            found[late][early] = step + mean_weight(likely[late], found[early])
            found[early][late] = found[late][early]
    return found[x][y]
