"""Doors between two neighbouring lots of a row, and how one of them is parted till a lot lies between."""

from lastbell.alllots import lots_among
from lastbell.given import asked_of
from lastbell.lots import most
from lastbell.parts import parted


class Gap:
    """The doors of a group, behind the doors ahead: of the lots with and without them just most is asked.

    The first one is parted. Its new parts, one by one, have what makes lots tight that grow by them: behind the
    doors ahead for an IN, behind all the others of the group for an OUT. If some lot lacks with them, then one
    that has them and not the door does, or, of an OUT, the door and not them, with some of the others.
    """

    def __init__(self, house, wishes, bell, parts, ahead, group):
        self.house = house
        self.wishes = wishes
        self.bell = bell
        self.parts = parts
        self.ahead = ahead
        self.group = group
        self.door = group[0]
        self.is_in = house.doors()[self.door][0] == "in"

    def parting(self):
        """The new parts, and the groups that come in place of this one.

        A part as wide as all roads of the door is as good as the door: if nothing lacks with it, then the lot
        that grows by the door alone is tight, and nothing is parted. Else what lacked ahead of the last part's
        being one turn later is tight now, so the others by which it did lie between the parts and the door.
        """
        room, others = self.weakest(None, self.width())
        if others is None:
            return [], self.in_order([[self.door], self.group[1:]])
        strength, others = self.weakest(room - 1, self.bell + 1)
        parts = self.parts_of(room - 1, strength - 1)
        rest = [door for door in self.group if door not in others]
        return parts, self.in_order([[door] for door in self.new_doors(parts)] + [others, rest])

    def in_order(self, groups):
        return groups if self.is_in else groups[::-1]

    def new_doors(self, parts):
        """The numbers of these further parts."""
        first = len(self.house.doors()) + len(self.parts)
        return list(range(first, first + len(parts)))

    def width(self):
        """How many can go a turn on the roads from an IN, or to an OUT."""
        at = 0 if self.is_in else 1
        place = self.house.doors()[self.door][1]
        return sum([road[3] for road in self.house.roads() if road[at] == place])

    def weakest(self, room, top):
        """The least strength of new parts at which a lot lacks, and the others by which one does.

        Strengths go from 1 to the top; at 0 nothing lacks. If nothing does at the top, either, it is one more,
        and None. A lot that lacks does so at each greater strength.
        """
        least = top + 1
        found = None
        for others in lots_among(self.group[1:]):
            if least > 1 and self.lacks(self.parts_of(room, least - 1), others):
                low = 0
                least -= 1
                while least - low > 1:
                    middle = (low + least) // 2
                    if self.lacks(self.parts_of(room, middle), others):
                        least = middle
                    else:
                        low = middle
                found = others
        return least, found

    def parts_of(self, room, strength):
        """One part as wide as it is strong; or, if there is one of this room, another one as much sooner."""
        if room is None:
            return [(self.door, strength, 0)]
        wide = [(self.door, room, 0)] if room > 0 else []
        return [*wide, (self.door, 1, self.bell + 1 - strength)]

    def lacks(self, parts, others):
        """Whether the lot that is tight by new parts lacks with these others (of an OUT, without them)."""
        whole = parted(self.house, self.parts + parts)
        if self.is_in:
            lot = self.ahead + self.new_doors(parts)
            other = lot + others
        else:
            lot = self.ahead + self.group
            other = [door for door in lot if door not in others]
        more = most(whole, other, self.bell) - most(whole, lot, self.bell)
        asked = asked_of(self.house, self.wishes, others)
        return (asked if self.is_in else -asked) > more
