"""Plans made of streams: so many loads a turn go along one way, from one turn on, for some turns.

A stream is (door in, roads, door out, start, turns, loads): its first load leaves the IN at start.
"""

import random

from lastbell.houses import House


class Streams:
    """Streams through a house, and what can be told of them by following each alone."""

    def __init__(self, house, streams):
        self.house = house
        self.streams = streams

    def plan(self):
        doors = [{} for _ in self.house.doors()]
        roads = [{} for _ in self.house.roads()]
        for door, way, other, start, turns, loads in self.streams:
            add(doors[door], start, turns, loads)
            for road in way:
                add(roads[road], start, turns, loads)
                start += self.house.roads()[road][2]
            add(doors[other], start, turns, loads)
        return [told(changes) for changes in doors], [told(changes) for changes in roads]

    def brings(self):
        numbers = [0 for _ in self.house.doors()]
        for door, _, other, _, turns, loads in self.streams:
            numbers[door] += turns * loads
            numbers[other] += turns * loads
        return numbers

    def bell(self):
        bells = [0]
        for _, way, other, start, turns, _ in self.streams:
            took = sum(self.house.roads()[road][2] for road in way)
            bells.append(start + turns - 1 + took + self.house.doors()[other][2])
        return max(bells)

    def end(self):
        """A turn by which all are taken."""
        return max([0] + [start + turns + sum(self.house.roads()[road][2] for road in way)
                          for _, way, _, start, turns, _ in self.streams])

    def on_roads(self, turn):
        found = [0 for _ in self.house.roads()]
        for _, way, _, start, turns, loads in self.streams:
            for road in way:
                length = self.house.roads()[road][2]
                # Loads that went in at start, start + 1 .. up to turn, less those that are out by then.
                gone_in = min(max(turn - start + 1, 0), turns)
                come_out = min(max(turn - start - length + 1, 0), turns)
                found[road] += (gone_in - come_out) * loads
                start += length
        return found

    def widest(self):
        """By roads, how many go in at most at a turn, 0 if nobody does."""
        return [max([0] + [rate for _, rate in steps]) for steps in self.plan()[1]]


def add(changes, start, turns, loads):
    changes[start] = changes.get(start, 0) + loads
    changes[start + turns] = changes.get(start + turns, 0) - loads


def told(changes):
    steps, rate = [], 0
    for turn in sorted(changes):
        rate += changes[turn]
        if rate != (steps[-1][1] if steps else 0):
            steps.append((turn, rate))
    return steps


def made_streams(house, seed, many=6, times=1, loads=(1, 1, 2, 3)):
    """Streams by chance, through the house with its rooms just full. Ways may come to a place more than once."""
    chance = random.Random(seed)
    streams = []
    for _ in range(many * 4):
        stream = a_stream(house, chance, times, loads)
        if stream and len(streams) < many:
            streams.append(stream)
    found = Streams(house, streams)
    roads = [(*road[:3], max(1, widest)) for road, widest in zip(house.roads(), found.widest())]
    return Streams(House(house.places(), roads, house.doors()), streams)


def a_stream(house, chance, times, loads):
    ins = [door for door, (sort, _, _) in enumerate(house.doors()) if sort == "in"]
    if not ins:
        return None
    door = chance.choice(ins)
    _, place, hour = house.doors()[door]
    way = []
    for _ in range(chance.randint(1, 9)):
        onward = [road for road, (begin, _, _, _) in enumerate(house.roads()) if begin == place]
        if not onward:
            break
        way.append(chance.choice(onward))
        place = house.roads()[way[-1]][1]
    outs = [other for other, (sort, at, _) in enumerate(house.doors()) if sort == "out" and at == place]
    if not outs or not way:
        return None
    start = hour + chance.choice((0, 0, 1, 2, 5)) * times
    return door, way, chance.choice(outs), start, chance.randint(1, 4) * times, chance.choice(loads)
