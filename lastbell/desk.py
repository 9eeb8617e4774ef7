"""A desk at which loads are booked, as long as all that is booked is kept by the bell."""

from lastbell.alllots import least_lot
from lastbell.errors import BadLoads, Lacks, NotBooked
from lastbell.further import least_between
from lastbell.given import need_bell, need_house, need_sort
from lastbell.kept import lacking, spares
from lastbell.kinds import is_integer
from lastbell.rows import plan_for


class Desk:
    """A desk. Bells and wishes ahead of each done deed, and behind each one taken back, are kept as pairs.

    A list of wishes that is kept is never changed: so desks may share them.
    """

    def __init__(self, house, bell):
        need_house(house)
        need_bell(bell)
        self._house = house
        self._bell = bell
        self._wishes = [0] * len(house.doors())
        self._done = []
        self._undone = []

    def house(self):
        return self._house

    def bell(self):
        return self._bell

    def wishes(self):
        return list(self._wishes)

    def plan(self):
        return plan_for(self._house, self._wishes, self._bell)

    def left(self, door, other):
        self._need_doors(door, other)
        return self._further(door, other)

    def book(self, door, other, loads):
        self._need_doors(door, other)
        need_loads(loads)
        self._change(door, other, loads, self._further(door, other))

    def cancel(self, door, other, loads):
        self._need_doors(door, other)
        need_loads(loads)
        if loads > min(self._wishes[door], self._wishes[other]):
            raise NotBooked(loads)
        self._change(door, other, -loads, self._further(other, door))

    def ring(self, bell):
        need_bell(bell)
        lacks = lacking(self._house, self._wishes, bell)
        if lacks:
            raise Lacks(least_lot(lacks), 0)
        self._do(bell, self._wishes)

    def undo(self):
        if not self._done:
            return False
        self._undone.append((self._bell, self._wishes))
        self._bell, self._wishes = self._done.pop()
        return True

    def again(self):
        if not self._undone:
            return False
        self._done.append((self._bell, self._wishes))
        self._bell, self._wishes = self._undone.pop()
        return True

    def copy(self):
        desk = Desk(self._house, self._bell)
        desk._wishes = self._wishes
        desk._done = list(self._done)
        desk._undone = list(self._undone)
        return desk

    def __eq__(self, other):
        return (isinstance(other, Desk) and self._house == other._house
                and self._bell == other._bell and self._wishes == other._wishes)

    def _need_doors(self, door, other):
        need_sort(self._house, door, "in")
        need_sort(self._house, other, "out")

    def _further(self, up, down):
        return least_between(spares(self._house, self._wishes, self._bell), up, down)

    def _change(self, door, other, loads, left):
        """Books so many, or takes them away, if it is not more than can be; loads are below 0 to take away."""
        wishes = list(self._wishes)
        wishes[door] += loads
        wishes[other] += loads
        if abs(loads) > left:
            raise Lacks(least_lot(lacking(self._house, wishes, self._bell)), left)
        self._do(self._bell, wishes)

    def _do(self, bell, wishes):
        self._done.append((self._bell, self._wishes))
        self._undone = []
        self._bell = bell
        self._wishes = wishes


def need_loads(loads):
    if not is_integer(loads) or loads < 1:
        raise BadLoads(loads)
