"""Greatest flows counted in ways of the tests' own, without anything of the program but its houses."""

from collections import deque


class LaidOut:
    """All turns laid out: a node for each place at each turn, as many as ever can from the source to the sink."""

    def __init__(self, house, bell):
        self.graph = {"source": {}}
        for turn in range(bell + 1):
            for begin, end, length, room in house.roads():
                if turn + length <= bell:
                    self.lay((begin, turn), (end, turn + length), room)

    def lay(self, begin, end, room=10 ** 6):
        self.graph.setdefault(begin, {})
        self.graph.setdefault(end, {})
        self.graph[begin][end] = self.graph[begin].get(end, 0) + room
        self.graph[end].setdefault(begin, 0)


def most_laid_out(house, lot, bell):
    """The greatest flow from INS of the lot to OUTS that are not of it."""
    turns = LaidOut(house, bell)
    for door, (sort, place, hour) in enumerate(house.doors()):
        for turn in range(bell + 1):
            if sort == "in" and door in lot and turn >= hour:
                turns.lay("source", (place, turn))
            if sort == "out" and door not in lot and turn <= bell - hour:
                turns.lay((place, turn), "sink")
    return greatest_flow(turns.graph)


def greatest_part_laid_out(house, numbers, bell):
    """The most that can go in all if no door has more than its number."""
    turns = LaidOut(house, bell)
    for door, (sort, place, hour) in enumerate(house.doors()):
        if sort == "in":
            turns.lay("source", ("door", door), numbers[door])
        else:
            turns.lay(("door", door), "sink", numbers[door])
        for turn in range(bell + 1):
            if sort == "in" and turn >= hour:
                turns.lay(("door", door), (place, turn))
            if sort == "out" and turn <= bell - hour:
                turns.lay((place, turn), ("door", door))
    return greatest_flow(turns.graph)


def kept_laid_out(house, wishes, bell):
    """Whether all loads that wait can go where they are wished."""
    waiting = sum(one for one, (sort, _, _) in zip(wishes, house.doors()) if sort == "in")
    return greatest_part_laid_out(house, wishes, bell) == waiting


def greatest_flow(graph):
    total = 0
    while True:
        came = {"source": None}
        waiting = deque(["source"])
        while waiting and "sink" not in came:
            node = waiting.popleft()
            for end, room in graph.get(node, {}).items():
                if room > 0 and end not in came:
                    came[end] = node
                    waiting.append(end)
        if "sink" not in came:
            return total
        way = []
        node = "sink"
        while came[node] is not None:
            way.append((came[node], node))
            node = came[node]
        amount = min(graph[begin][end] for begin, end in way)
        for begin, end in way:
            graph[begin][end] -= amount
            graph[end][begin] += amount
        total += amount


def most_by_rings(house, lot, bell):
    """What a flow that takes the same each turn brings, made better ring by ring till none is left to better it.

    An arc from the sink back to the source has a length of -(bell + 1): so a ring that goes by it is worth
    as much as it can be begun in time. Other than the program it never looks for shortest ways.
    """
    wide = sum(road[3] for road in house.roads()) + 1
    arcs = []
    for begin, end, length, room in house.roads():
        arcs.append([begin, end, length, room])
    for door, (sort, place, hour) in enumerate(house.doors()):
        if sort == "in" and door in lot:
            arcs.append(["source", place, hour, wide])
        if sort == "out" and door not in lot:
            arcs.append([place, "sink", hour, wide])
    arcs.append(["sink", "source", -(bell + 1), wide])
    both = []
    for begin, end, length, room in arcs:
        both.append([begin, end, length, room])
        both.append([end, begin, -length, 0])
    gained = 0
    # Wide rings first: else narrow arcs could make wide ones better one load at a time, for ages.
    least = 2 ** 80
    while least:
        ring = bettering_ring(both, least)
        while ring:
            amount = min(both[at][3] for at in ring)
            gained -= amount * sum(both[at][2] for at in ring)
            for at in ring:
                both[at][3] -= amount
                both[at ^ 1][3] += amount
            ring = bettering_ring(both, least)
        least //= 16
    return gained


def bettering_ring(both, least):
    """The indexes of arcs of a ring of length below 0 with so much room left, None if there is none."""
    nodes = {arc[0] for arc in both}
    far = {node: 0 for node in nodes}
    came = {}
    last = None
    for _ in range(len(nodes) + 1):
        last = None
        for at, (begin, end, length, room) in enumerate(both):
            if room >= least and far[begin] + length < far[end]:
                far[end] = far[begin] + length
                came[end] = at
                last = end
        if last is None:
            return None
    for _ in range(len(nodes)):
        last = both[came[last]][0]
    ring = [came[last]]
    while both[ring[-1]][0] != last:
        ring.append(came[both[ring[-1]][0]])
    return ring
