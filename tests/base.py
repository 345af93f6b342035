"""What the test files share: asserting errors and time, and samples."""
import itertools
import random
import signal
import unittest

from nearlords import errors
from nearlords.orders import made_order

# How many seconds one test may take.
LONGEST = 120

# Numbers that are no places of anything, from far below to far above.
NO_PLACES = (-10 ** 30, -17, -2, 16, 17, 10 ** 18 + 1, 10 ** 40)

# Things of other forms, as a judge may be handed them for any argument.
ODD_THINGS = (
    (), "", "up", "012", "-1", 0, -1, 3, 10 ** 40, -10 ** 40,
    ("",), ("0",), ("-1",), ((),), ((-1,),), (((-1,),),), ((0, 1),), ("up", 1),
    (-1, "0"), (-1, (0,)), (-1, ()), ((-1, 0, 1),), (-1,) * 17, (-1,) * 9000,
    (10 ** 40,), (-2,), (0,), (1, 0), (1,), (-1, 1), "x" * 9000,
)


def nested(deep):
    """Return a tuple that is nested so deep."""
    thing = (-1,)
    for _ in range(deep - 1):
        thing = (thing,)
    return thing


# What is no house of an order of 3 places, with the error that comes first.
BAD_HOUSES = (
    ("BadSize", 0, ()), ("BadSize", 17, (-1,) * 17), ("BadSize", 18, (5,) * 18), ("BadParent", 0, (0, -1, -1)),
    ("BadParent", 1, (-1, 1, 0)), ("BadParent", 2, (1, 0, 3)), ("BadParent", 2, (-1, -1, -2)),
    ("BadParent", 0, (10 ** 30, -1, -1)), ("Round", 0, (1, 0, -1)), ("Round", 1, (-1, 2, 1)), ("Round", 0, (1, 2, 0)),
    ("Unlike", 1, (-1,)), ("Unlike", 2, (-1, 0)), ("Unlike", 4, (-1, 0, 1, 2)), ("Unlike", 16, (-1,) * 16),
    ("BadParent", 1, (-1, 9)), ("Round", 0, (1, 0)), ("Round", 2, (-1, -1, 3, 2)),
)

ROW = (1, 1, 1, 1)

# What is no table for 3 places, with the error that comes first.
BAD_TABLES = (
    ("BadPrice", 0, ()), ("BadPrice", 2, (ROW, ROW)), ("BadPrice", 4, (ROW,) * 4), ("BadPrice", 1, (ROW,)),
    ("BadPrice", 17, (ROW,) * 17), ("BadPrice", 2, ((), ROW)), ("BadPrice", 4, ((-1,),) * 4),
    ("BadPrice", (0,), ((), ROW, ROW)), ("BadPrice", (1,), (ROW, (1, 1, 1), ROW)),
    ("BadPrice", (2,), (ROW, ROW, (1, 1, 1, 1, 1))), ("BadPrice", (0,), ((1, 1, 1), ROW, (1, 1, 1))),
    ("BadPrice", (1,), (ROW, (1, 1, 1, -1), ROW)), ("BadPrice", (2,), (ROW, ROW, (-1, 1, 1, 1))),
    ("BadPrice", (0,), ((1, 10 ** 9 + 1, 1, 1), ROW, ROW)), ("BadPrice", (2,), (ROW, ROW, (1, 1, 10 ** 40, 1))),
    ("BadPrice", (1,), (ROW, (1, -10 ** 40, 1, 1), ())), ("BadPrice", (1,), (ROW, (1,) * 17, (-1,) * 4)),
    ("BadPrice", (0,), ((1, 1, 1, -1), (1, 1), ROW)), ("BadPrice", (2,), (ROW, ROW, ())),
    # A place at which all numbers are 0 comes later than a bad row.
    ("BadPrice", (2,), ((0, 0, 0, 0), ROW, (1, 1, 1, -1))), ("BadPrice", 2, ((0, 0, 0, 0), ROW)),
)


class Case(unittest.TestCase):
    """A test case that can also assert refusals and times."""

    def setUp(self):
        # A program that never comes to an end must fail, too.
        signal.signal(signal.SIGALRM, self.late)
        signal.setitimer(signal.ITIMER_REAL, LONGEST)
        self.addCleanup(signal.setitimer, signal.ITIMER_REAL, 0)

    def late(self, *told):
        self.fail(f"this took more than {LONGEST} seconds")

    def refuses_bad_houses(self, call):
        """Assert that a call with one house refuses what is none of 3 places."""
        for name, what, bad in BAD_HOUSES:
            self.refused(name, what, call, bad)

    def refuses_bad_tables(self, call):
        """Assert that a call with one table refuses what is none for 3 places."""
        for name, what, bad in BAD_TABLES:
            self.refused(name, what, call, bad)

    def refused(self, name, what, function, *args, **named):
        """Assert that the call raises just the error of this name and what."""
        with self.assertRaises(errors.Refused) as caught:
            function(*args, **named)
        self.assertIs(type(caught.exception), getattr(errors, name))
        self.assertEqual(caught.exception.what, what)
        self.assertIs(type(caught.exception.what), type(what))

    def same(self, found, expected):
        """Assert that two values are equal and of one type."""
        self.assertEqual(found, expected)
        self.assertIs(type(found), type(expected))

    def no_judge_raises(self, judge, count, good):
        """Assert that a judge tells False of odd things in each argument's place.

        good is a list of arguments that it judges right; count tells which
        places of it may be filled with anything.
        """
        self.assertIs(judge(*good), True)
        for at in count:
            for odd in ODD_THINGS + (nested(50), (nested(49), -1)):
                args = list(good)
                args[at] = odd
                if odd != good[at]:
                    self.assertIs(judge(*args), False, (at, odd))


class quick:
    """A context that fails if what runs in it takes too many seconds."""

    def __init__(self, seconds):
        self.seconds = seconds

    def __enter__(self):
        self.before = signal.signal(signal.SIGALRM, self._late)
        signal.setitimer(signal.ITIMER_REAL, self.seconds)

    def __exit__(self, *told):
        signal.signal(signal.SIGALRM, self.before)
        signal.setitimer(signal.ITIMER_REAL, LONGEST)

    def _late(self, *told):
        raise AssertionError(f"this took more than {self.seconds} seconds")


def pairs_of(order):
    """Return the set of the pairs that an order tells."""
    return {(x, y) for y in range(order.n) for x in order.lesser[y]}


def is_transitive(pairs):
    """Tell whether a set of pairs is an order."""
    return all(x != z and (x, z) in pairs for x, y in pairs for w, z in pairs if w == y)


_ORDERS = {}


def all_orders(n):
    """Return all orders of n places, up to 4."""
    if n not in _ORDERS:
        every = [(x, y) for x in range(n) for y in range(n) if x != y]
        _ORDERS[n] = []
        for mask in range(1 << len(every)):
            pairs = {pair for k, pair in enumerate(every) if mask >> k & 1}
            if is_transitive(pairs):
                _ORDERS[n].append(made_order(n, tuple(sorted(pairs))))
    return _ORDERS[n]


_HOUSES = {}


def all_houses(n):
    """Return all houses of n places, ascending, up to 6."""
    if n not in _HOUSES:
        tuples = itertools.product(range(-1, n), repeat=n)
        _HOUSES[n] = [parents for parents in tuples if climbs_out(parents)]
    return _HOUSES[n]


_KINDS = {}


def kinds_of_orders():
    """Return orders of 1 to 6 places of every kind, so few that all houses of each can be listed."""
    if "few" not in _KINDS:
        chains = [made_order(n, tuple(itertools.combinations(range(n), 2))) for n in (4, 5, 6)]
        flats = [made_order(n, ()) for n in (4, 5, 6)]
        _KINDS["few"] = [order for n in (1, 2, 3) for order in all_orders(n)] + all_orders(4)[::12] + chains + flats
        _KINDS["few"] += [order for n, many in ((5, 9), (6, 3)) for order, _ in samples(many, n, seed=8)]
    return _KINDS["few"]


def pairs_of_orders():
    """Return pairs of an order and one that is within it, of 1 to 6 places."""
    if "pairs" not in _KINDS:
        dice = random.Random(31)
        found = [(order, under) for n in (1, 2, 3) for order in all_orders(n) for under in all_orders(n)
                 if pairs_of(under) <= pairs_of(order)]
        for n, many in ((4, 60), (5, 20), (6, 12)):
            for order, _ in samples(many, n, seed=9):
                both = pairs_of(order) & pairs_of(some_order(dice, n))
                found += [(order, made_order(n, tuple(both))), (order, order), (order, made_order(n, ()))]
        _KINDS["pairs"] = found
    return _KINDS["pairs"]


def big_orders():
    """Return orders of 16 places: a chain, a flat one, ranks, and some by chance."""
    ranks = [(x, y) for x in range(16) for y in range(16) if x // 3 < y // 3]
    chain_pairs = tuple(itertools.combinations(range(16), 2))
    firsts = [made_order(16, chain_pairs), made_order(16, ()), made_order(16, tuple(ranks))]
    return firsts + [order for order, _ in samples(8, 16, seed=10)]


def climbs_out(parents):
    """Tell whether one comes from each place to the door."""
    for x in range(len(parents)):
        seen = set()
        while x != -1 and x not in seen:
            seen.add(x)
            x = parents[x]
        if x != -1:
            return False
    return True


def some_house(dice, n):
    """Return a house of n places by chance."""
    places = list(range(n))
    dice.shuffle(places)
    parents = [-1] * n
    for k, x in enumerate(places):
        parents[x] = ([-1] + places[:k])[dice.randrange(min(k + 1, dice.choice((2, 4, 17))))]
    return tuple(parents)


def deep_house(dice, n):
    """Return a house of n places by chance, in which many stand deep."""
    places = list(range(n))
    dice.shuffle(places)
    parents = [-1] * n
    for k, x in enumerate(places[1:]):
        parents[x] = places[max(0, k - dice.randrange(2))]
    return tuple(parents)


def some_order(dice, n):
    """Return an order of n places by chance, of one of several kinds."""
    row = list(range(n))
    dice.shuffle(row)
    often = dice.choice((0, 1, 3, 6, 9, 10))
    pairs = {(row[j], row[k]) for j in range(n) for k in range(j + 1, n) if dice.randrange(10) < often}
    for y in range(n):
        for x in range(n):
            for z in range(n):
                if (x, y) in pairs and (y, z) in pairs:
                    pairs.add((x, z))
    return made_order(n, tuple(sorted(pairs)))


def samples(many, n, seed=5):
    """Return so many orders of n places with a house each, by chance."""
    dice = random.Random(seed * 100 + n)
    return [(some_order(dice, n), dice.choice((some_house, deep_house))(dice, n)) for _ in range(many)]
