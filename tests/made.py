"""Houses for the tests: the document's example, and ones made by chance, the same ones in each run."""

import random
from itertools import combinations

from lastbell.houses import House

H_ROADS = [(0, 2, 1, 2), (1, 2, 2, 1), (2, 3, 1, 2), (2, 4, 2, 1), (1, 4, 5, 1)]
H_DOORS = [("in", 0, 0), ("in", 1, 1), ("out", 3, 0), ("out", 4, 1)]


def example():
    return House(5, H_ROADS, H_DOORS)


def all_lots(house):
    numbers = range(len(house.doors()))
    return [list(lot) for many in range(len(numbers) + 1) for lot in combinations(numbers, many)]


def made_house(seed, lengths, rooms, hours, places=(2, 6), roads=(0, 10), doors=(0, 5)):
    """A house by chance; lengths, rooms and hours are what is drawn from.

    Roads of length 0 lead only up in a hidden order of the places, so they never come back in a ring.
    """
    chance = random.Random(seed)
    many = chance.randint(*places)
    hidden = chance.sample(range(many), many)
    made_roads = []
    for _ in range(chance.randint(*roads)):
        low, high = sorted(chance.sample(range(many), 2))
        length = chance.choice(lengths)
        if length > 0 and chance.random() < 0.35:
            low, high = high, low
        made_roads.append((hidden[low], hidden[high], length, chance.choice(rooms)))
    made_doors = []
    sorts = {}
    for _ in range(chance.randint(*doors)):
        at = chance.randrange(many)
        likely = "in" if chance.random() * many > at else "out"
        sort = sorts.setdefault(hidden[at], likely)
        made_doors.append((sort, hidden[at], chance.choice(hours)))
    return House(many, made_roads, made_doors)


def small_house(seed):
    return made_house(seed, (0, 0, 1, 1, 2, 3, 4), (1, 1, 1, 2, 3), (0, 0, 0, 1, 2, 4))


def busy_house(seed):
    """One with many roads between few places: ways have to go back along roads, and stand beside one another."""
    return made_house(seed, (0, 1, 2, 3), (1, 1, 2), (0, 1, 2), (4, 6), (8, 14), (3, 5))


def crossed_house(seed, times=1):
    """One in which the shortest way takes a short row of roads, so that further ways have to go back along it."""
    chance = random.Random(seed)
    many = chance.randint(4, 6)
    hidden = chance.sample(range(many), many)
    roads = []
    for low in range(many - 1):
        roads.append((hidden[low], hidden[low + 1], chance.choice((0, 1)) * times, chance.choice((1, 1, 2))))
        for high in range(low + 2, min(low + 4, many)):
            if high - low < many - 1 and len(roads) < 14:
                roads.append((hidden[low], hidden[high], chance.randint(2, 6) * times, 1))
    chance.shuffle(roads)
    doors = [("in", hidden[0], chance.choice((0, 1)) * times), ("out", hidden[-1], chance.choice((0, 2)) * times)]
    if chance.random() < 0.5:
        doors.append(("in", hidden[1], chance.choice((0, 3)) * times))
    if chance.random() < 0.5:
        doors.append(("out", hidden[-2], chance.choice((0, 3)) * times))
    chance.shuffle(doors)
    return House(many, roads, doors)


def far_house(seed):
    top = 10 ** 9
    lengths = (0, 1, 7, top // 3, top // 2, top - 1, top)
    return made_house(seed, lengths, (1, 2, top - 7, top), (0, 1, top - 3, top), (3, 8), (5, 14), (2, 5))


def with_more_doors(house, seed, rooms, lates, many=12):
    """The house with so many places, doors and roads more behind all, as parted doors stand there."""
    chance = random.Random(seed)
    places, roads, doors = house.places(), house.roads(), house.doors()
    for _ in range(many if doors else 0):
        sort, place, hour = chance.choice(house.doors())
        ends = (places, place) if sort == "in" else (place, places)
        roads.append((*ends, chance.choice(lates), chance.choice(rooms)))
        doors.append((sort, places, hour))
        places += 1
    return House(places, roads, doors)
