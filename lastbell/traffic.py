"""What goes for ever along ways, while doors are opened and shut one behind another, and the plan that it makes."""

from lastbell.changes import change_from, steps_of
from lastbell.nets import Net


class Traffic:
    """The traffic of a house by a bell. At first all INS are open, no OUT, and nobody goes.

    What goes always brings the most by the bell from the open INS to the opened OUTS. It only ever changes
    along shortest ways, and these get longer: so at no turn is more taken off a road than goes there.

    Roads are laid first, then for each door two arcs. By the first one ways begin at the door: at an open IN
    at its hour; at an OUT one turn behind its last one, as many as come there, so that they do not any more.
    By the second one ways end there: at an OUT while it is opened; at an IN that is shut, as many as left by it.
    """

    def __init__(self, house, bell):
        self.doors = house.doors()
        self.roads = house.roads()
        self.bell = bell
        self.net = Net(house.places())
        for begin, end, length, room in self.roads:
            self.net.lay(begin, end, length, room)
        # Wider than all roads together, so that no door is ever used up.
        self.wide = 1 + sum([room for _, _, _, room in self.roads])
        for sort, place, hour in self.doors:
            if sort == "in":
                self.net.lay(self.net.source, place, hour, self.wide)
                self.net.lay(place, self.net.sink, 0, 0)
            else:
                self.net.lay(self.net.source, place, bell + 1 - hour, 0)
                self.net.lay(place, self.net.sink, hour, 0)

    def begin_arc(self, door):
        return 2 * (len(self.roads) + 2 * door)

    def end_arc(self, door):
        return self.begin_arc(door) + 2

    def turn_over(self, door):
        """Shuts an IN, opens an OUT."""
        sort, _, _ = self.doors[door]
        if sort == "in":
            self.shut(door)
        else:
            self.let_come(door)

    def shut(self, door):
        leaving = self.closed(self.begin_arc(door))
        self.send(door, leaving, None)

    def let_come(self, door):
        free = self.net.free
        free[self.begin_arc(door)] = self.send(door, self.wide, self.bell)

    def send(self, door, amount, limit):
        """Sends up to so many to where ways end at the door, and tells how many came."""
        free = self.net.free
        free[self.end_arc(door)] = amount
        self.net.fill(limit)
        return self.closed(self.end_arc(door))

    def closed(self, arc):
        """Lets nothing go along an arc any more, nor be taken off it, and tells how much goes there."""
        free = self.net.free
        going = free[arc + 1]
        free[arc] = 0
        free[arc + 1] = 0
        return going

    def plan(self):
        roads = [{} for _ in self.roads]
        doors = [{} for _ in self.doors]
        for near, way, amount in self.net.sent:
            for arc in way:
                if arc < self.begin_arc(0):
                    # Going back along a road takes off what goes in there at this turn: so both change there.
                    begin = self.net.begins[arc - (arc & 1)]
                    change_from(roads[arc // 2], near[begin], -amount if arc & 1 else amount)
                else:
                    self.change_door(doors, near, arc, amount)
        return [steps_of(changes) for changes in doors], [steps_of(changes) for changes in roads]

    def change_door(self, doors, near, arc, amount):
        """An IN is left more where ways begin, an OUT takes more where they end, and less the other way about."""
        door = (arc - self.begin_arc(0)) // 4
        sort, place, _ = self.doors[door]
        begins = arc == self.begin_arc(door)
        change_from(doors[door], near[place], amount if begins == (sort == "in") else -amount)
