"""The chances of depths in a box."""
from nearlords.checks import DOOR, check_place
from nearlords.shares import share
from nearlords.tables import chance_rows, mean_weight, number_sum, whole_weight


def depth_chances(box, x, *, table=None):
    """Return the chances that the depth of x is 0, 1, 2 .."""
    check_place(box.order.n, x)
    likely = chance_rows(box, table)
    whole = whole_weight(likely)
    # The door counts as one step above the depth 0.
    weights = {DOOR: [whole]}
    for place, row in likely.items():
        weights[place] = _one_deeper(row, weights)
    return tuple([share(weight, whole) for weight in weights[x][1:]])


def mean_depth(box, x, *, table=None):
    """Return the mean of the depth of x."""
    check_place(box.order.n, x)
    likely = chance_rows(box, table)
    whole = whole_weight(likely)
    weights = {DOOR: -whole}
    for place, row in likely.items():
        weights[place] = whole + mean_weight(row, weights)
    return share(weights[x], whole)


def depth_bounds(box, x, *, table=None):
    """Return the least and the greatest depth of x that has a chance."""
    chances = depth_chances(box, x, table=table)
    depths = [d for d in range(len(chances)) if chances[d] != (0, 1)]
    return depths[0], depths[-1]


def _one_deeper(row, weights):
    """Return the weights of the depths of a place by those of its parents."""
    longest = max([len(weights[parent]) for parent, _ in row])
    sums = [0] * (longest + 1)
    for parent, number in row:
        for d, weight in enumerate(weights[parent]):
            sums[d + 1] += number * weight
    return [weight // number_sum(row) for weight in sums]
