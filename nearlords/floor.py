"""The floor: an order, a house and a mark that change."""
from nearlords.checks import DOOR, check_place
from nearlords.done import done
from nearlords.errors import BadParent, NothingToRedo, NothingToUndo, TooMany
from nearlords.houseroads import beneath
from nearlords.houses import check_house
from nearlords.orderchanges import grown

MOST_STANDING = 300


class Floor:
    """An order, a house and a mark, with a record and undoing."""

    def __init__(self, order, house):
        check_house(order, house)
        # What stood at the beginning, then what stands behind each deed, which comes first.
        self._points = [(None, order, house, house)]
        self._undone = []

    def order(self):
        """Return the order as it stands."""
        return self._points[-1][1]

    def house(self):
        """Return the house as it stands."""
        return self._points[-1][2]

    def marked(self):
        """Return the mark."""
        return self._points[-1][3]

    def record(self):
        """Return a row for each standing deed."""
        return tuple([point[0] for point in self._points[1:]])

    def up(self, x):
        """Lift a place up."""
        deed = ("up", x)
        self._stand(deed, self.order(), done(self.order(), self.house(), deed), self.marked())

    def down(self, x, q):
        """Bring a place down under a brother."""
        deed = ("down", x, q)
        self._stand(deed, self.order(), done(self.order(), self.house(), deed), self.marked())

    def relate(self, x, y):
        """Make x less than y."""
        self._stand(("relate", x, y), grown(self.order(), x, y), self.house(), self.marked())

    def graft(self, x, p):
        """Make p the parent of x, whatever the order."""
        house = self.house()
        check_place(len(house), x)
        if not DOOR <= p < len(house) or p == x or p in beneath(house, x):
            raise BadParent(p)
        self._stand(("graft", x, p, house[x]), self.order(), house[:x] + (p,) + house[x + 1:], self.marked())

    def mark(self):
        """Make the house as it stands the mark."""
        self._stand(("mark",), self.order(), self.house(), self.house())

    def undo(self):
        """Take back the last standing deed."""
        if len(self._points) == 1:
            raise NothingToUndo(0)
        self._undone.append(self._points.pop())

    def redo(self):
        """Do again the deed that was undone last."""
        if not self._undone:
            raise NothingToRedo(0)
        self._points.append(self._undone.pop())

    def _stand(self, row, order, house, marked):
        """Let a deed stand, with what is behind it, and forget what could be redone."""
        if len(self._points) > MOST_STANDING:
            raise TooMany(MOST_STANDING + 1)
        self._points.append((row, order, house, marked))
        self._undone = []
