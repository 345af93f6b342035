"""Plain answers for orders and houses of some places, numbered anew."""
from tests import oracle
from tests.base import Case, all_houses, all_orders, pairs_of, samples


class PairCase(Case):
    """A test case that can also assert what a pair of an order and a house is."""

    def same_pair(self, found, pairs, house):
        """Assert that a pair is of the order that tells some pairs and of a house."""
        self.assertEqual((type(found), len(found)), (tuple, 2))
        order, parents = found
        self.same(parents, tuple(house))
        self.assertEqual(order.n, len(parents))
        self.assertEqual(pairs_of(order), set(pairs))
        self.same(order.lesser, tuple(tuple(sorted(row)) for row in order.lesser))

    def same_rows(self, found, lords, rows):
        """Assert what lords and what admitted parents the houses of a pair have."""
        self.assertEqual(oracle.lords_of(*found), tuple(lords))
        self.assertEqual(oracle.rows_of(*found), tuple(map(tuple, map(sorted, rows))))


def numbered(places):
    """Return the new number of each of some places, the door's besides."""
    return {-1: -1} | {p: k for k, p in enumerate(sorted(places))}


def pairs_anew(order, anew):
    """Return the pairs of the numbered places, by their new numbers."""
    return {(anew[x], anew[y]) for x, y in pairs_of(order) if x in anew and y in anew}


def cases():
    """Return orders of 1 to 6 places of every kind with houses."""
    found = [(order, house) for n in (1, 2, 3) for order in all_orders(n) for house in all_houses(n)]
    found += [(order, house) for order in all_orders(4)[::20] for house in all_houses(4)[::7]]
    return found + samples(40, 5, seed=11) + samples(40, 6, seed=12)
