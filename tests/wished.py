"""Wishes for the tests: kept by what streams bring, by just what lots let through, and a little more."""

import random

from lastbell.houses import House
from tests.made import busy_house, crossed_house, example, far_house, made_house, small_house
from tests.streams import made_streams


def sorts_of(house):
    return [sort for sort, _, _ in house.doors()]


def asked_of_lot(house, wishes, lot):
    """Counted anew."""
    total = 0
    for door in lot:
        total += wishes[door] * (1 if sorts_of(house)[door] == "in" else -1)
    return total


def both_sorts(house):
    return "in" in sorts_of(house) and "out" in sorts_of(house)


def wished_houses():
    """Small ones with doors of both sorts, between most of which something gets."""
    found = [example()] + [busy_house(seed) for seed in range(60)] + [crossed_house(seed) for seed in range(25)]
    found += [wide_house(seed) for seed in range(60)]
    return [house for house in found if both_sorts(house)]


def shut_houses():
    """Small ones with doors of both sorts, between many of which nothing ever gets."""
    found = [small_house(seed) for seed in range(150)]
    found += [made_house(seed, (1, 2), (1, 2), (0, 1), (4, 6), (2, 5), (4, 5)) for seed in range(60)]
    return [house for house in found if both_sorts(house)]


def wide_house(seed):
    """One whose doors stand anywhere, also where roads go on behind OUTS and come to INS."""
    chance = random.Random(seed)
    places = chance.randint(4, 7)
    roads = []
    for _ in range(chance.randint(7, 14)):
        begin, end = chance.sample(range(places), 2)
        roads.append((begin, end, chance.choice((0, 1, 2, 3)) if begin < end else chance.randint(1, 3),
                      chance.choice((1, 1, 2, 4))))
    doors, sorts = [], {}
    for number in range(chance.randint(3, 5)):
        place = chance.randrange(places)
        sort = sorts.setdefault(place, ("in", "out")[number % 2])
        doors.append((sort, place, chance.choice((0, 0, 1, 3))))
    return House(places, roads, doors)


def far_wished_houses():
    return [house for house in [far_house(seed) for seed in range(40)] if both_sorts(house)]


def made_wishes(house, seed, far=1):
    """Wishes by chance, as many in all at INS as at OUTS."""
    chance = random.Random(seed)
    wishes = [0 for _ in house.doors()]
    sorts = sorts_of(house)
    if not both_sorts(house):
        return wishes
    for _ in range(chance.choice((0, 1, 2, 3, 5))):
        loads = chance.choice((1, 1, 2, 4, 7)) * far
        for which in ("in", "out"):
            door = chance.choice([door for door, sort in enumerate(sorts) if sort == which])
            wishes[door] += loads
    return wishes


def one_load_more(house, wishes):
    """The wishes with one load more at each IN and each OUT, by turns."""
    sorts = sorts_of(house)
    for door, sort in enumerate(sorts):
        for other, other_sort in enumerate(sorts):
            if (sort, other_sort) == ("in", "out"):
                more = list(wishes)
                more[door] += 1
                more[other] += 1
                yield door, other, more


def kept_wishes(seed):
    """A small house, wishes, and a bell by which a plan of streams brings them."""
    house = wished_houses()[seed % len(wished_houses())]
    streams = made_streams(house, seed, 1 + seed % 5)
    return streams.house, streams.brings(), streams.bell(), streams.plan()
