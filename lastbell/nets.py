"""What lets flows through, and the flow that is sent there, by the shortest ways first."""


class Net:
    """Nodes, the arcs between them, and a flow that takes the same at every turn.

    Behind the nodes of the places stand two more, source and sink. What was laid as the k-th is arc 2 * k,
    and the way back along it, by which a flow is taken off again, arc 2 * k + 1. `free` is by arcs how much
    may still go along them: along a way back this is just what flows. `sent` is all that was sent, as triples
    (lengths from the source by nodes, arcs of a way, amount) in order.
    """

    def __init__(self, places):
        self.source = places
        self.sink = places + 1
        self.leaving = [[] for _ in range(places + 2)]
        self.begins = []
        self.ends = []
        self.lengths = []
        self.free = []
        self.sent = []

    def lay(self, begin, end, length, room):
        self.leaving[begin].append(len(self.ends))
        self.leaving[end].append(len(self.ends) + 1)
        self.begins.extend([begin, end])
        self.ends.extend([end, begin])
        self.lengths.extend([length, -length])
        self.free.extend([room, 0])

    def fill(self, limit):
        """Sends all that goes by ways up to the limit (None: by any), and tells (length, amount) by lengths.

        Nothing flows there yet. All ways of one length are used up together, so the lengths rise, and their
        number does not grow with the rooms.
        """
        pairs = []
        near = self.distances()
        while near[self.sink] is not None and (limit is None or near[self.sink] <= limit):
            pairs.append((near[self.sink], self.use_up(near)))
            near = self.distances()
        return pairs

    def distances(self):
        """The shortest lengths from the source, by nodes, None where no way leads."""
        near = [None] * len(self.leaving)
        near[self.source] = 0
        changed = [self.source]
        while changed:
            nearer = {}
            for node in changed:
                for arc in self.leaving[node]:
                    if self.free[arc] > 0:
                        end = self.ends[arc]
                        length = near[node] + self.lengths[arc]
                        if near[end] is None or length < near[end]:
                            near[end] = length
                            nearer[end] = True
            changed = list(nearer)
        return near

    def use_up(self, near):
        """Sends along shortest ways till none is left, and tells how much."""
        total = 0
        way = self.shortest_way(near)
        while way:
            amount = min([self.free[arc] for arc in way])
            for arc in way:
                self.free[arc] -= amount
                self.free[arc ^ 1] += amount
            self.sent.append((near, way, amount))
            total += amount
            way = self.shortest_way(near)
        return total

    def shortest_way(self, near):
        """The arcs of a shortest way, the last one ahead, [] if there is none.

        Of several it is one of the fewest arcs: else wide ways could be used up by ones again and again.
        """
        came = {self.source: None}
        fresh = [self.source]
        while fresh and self.sink not in came:
            found = []
            for node in fresh:
                for arc in self.leaving[node]:
                    end = self.ends[arc]
                    if self.free[arc] > 0 and end not in came and near[node] + self.lengths[arc] == near[end]:
                        came[end] = arc
                        found.append(end)
            fresh = found
        return self.traced(came)

    def traced(self, came):
        """The arcs from the sink back to the source; came has by nodes the arc by which each was reached."""
        way = []
        arc = came.get(self.sink)
        while arc is not None:
            way.append(arc)
            arc = came[self.begins[arc]]
        return way

    def ways(self):
        """All that flows, as pairs (arcs, amount) of ways from the source to the sink.

        What fill sends has no rings, for one that takes turns would be shorter left out, and houses have
        none that take no turn: so each way ends.
        """
        flows = [self.free[arc ^ 1] if (arc & 1) == 0 else 0 for arc in range(len(self.free))]
        found = []
        way = self.flowing_way(flows)
        while way:
            amount = min([flows[arc] for arc in way])
            for arc in way:
                flows[arc] -= amount
            found.append((way, amount))
            way = self.flowing_way(flows)
        return found

    def flowing_way(self, flows):
        """The arcs of a way along which something flows, [] if nothing leaves the source."""
        way = []
        node = self.source
        while node != self.sink:
            onward = [arc for arc in self.leaving[node] if flows[arc] > 0]
            if not onward:
                return []
            way.append(onward[0])
            node = self.ends[onward[0]]
        return way
