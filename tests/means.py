"""Wishes for the tests that are near to what can just be: means of corners, and their neighbours."""

import random

from lastbell.houses import House
from lastbell.orders import corner
from tests.made import busy_house, crossed_house, example, far_house, small_house
from tests.wished import both_sorts, sorts_of, wide_house

TOP = 10 ** 9


def made_order(house, chance):
    order = list(range(len(house.doors())))
    chance.shuffle(order)
    return order


def mean_of_corners(house, bell, seed, many=3):
    """A mean of some corners, rounded down, and as much less at some doors as makes it even: mostly it is kept."""
    chance = random.Random(seed)
    shares = [chance.randint(1, 9) for _ in range(many)]
    corners = [corner(house, made_order(house, chance), bell) for _ in shares]
    sums = [0 for _ in house.doors()]
    for share, numbers in zip(shares, corners):
        sums = [total + share * one for total, one in zip(sums, numbers)]
    return evened(house, [total // sum(shares) for total in sums], chance)


def evened(house, numbers, chance):
    wishes = list(numbers)
    doors = {which: [door for door, sort in enumerate(sorts_of(house)) if sort == which] for which in ("in", "out")}
    while True:
        over = sum(wishes[door] for door in doors["in"]) - sum(wishes[door] for door in doors["out"])
        if over == 0:
            return wishes
        door = chance.choice([door for door in doors["in" if over > 0 else "out"] if wishes[door]])
        wishes[door] -= 1


def beside(house, wishes, seed):
    """The wishes with one load more somewhere, or one from one door to another one of its sort."""
    chance = random.Random(seed)
    found = list(wishes)
    sorts = sorts_of(house)
    door, other = chance.choice([(one, another) for one in range(len(sorts)) for another in range(len(sorts))
                                 if one != another])
    if sorts[door] != sorts[other]:
        found[door] += 1
        found[other] += 1
    elif found[other]:
        found[door] += 1
        found[other] -= 1
    return found


def near_houses():
    found = [example()] + [busy_house(seed) for seed in range(25)] + [crossed_house(seed) for seed in range(15)]
    found += [wide_house(seed) for seed in range(35)] + [small_house(seed) for seed in range(0, 60, 3)]
    return [house for house in found if both_sorts(house)]


def far_of(house, seed):
    """As the house, with lengths, rooms and hours of unlike measures to 10 ** 9; lengths of 0 stay so."""
    chance = random.Random(seed)
    part = TOP // 6
    roads = []
    for begin, end, length, room in house.roads():
        roads.append((begin, end, min(TOP, length * part + chance.randrange(part)) if length else 0,
                      min(TOP, room * part + chance.randrange(part)) if chance.random() < 0.9 else room))
    doors = [(sort, place, min(TOP, hour * part + chance.randrange(part))) for sort, place, hour in house.doors()]
    return House(house.places(), roads, doors)


def limit_house(seed):
    """One of eight places, fourteen roads and five doors, through which much gets."""
    chance = random.Random(seed)
    roads = []
    for number in range(14):
        begin, end = sorted(chance.sample(range(8), 2))
        if number >= 12:
            begin, end = end, begin
        roads.append((begin, end, chance.randint(1, TOP), chance.randint(1, TOP)))
    doors = [("in", 0, 0), ("out", 7, chance.randint(0, TOP)), ("in", 1, chance.randint(0, TOP)),
             ("out", 6, chance.randint(0, TOP))]
    doors.append(chance.choice((("in", 2, TOP), ("out", 5, 0), ("in", 0, TOP), ("out", 7, 0))))
    chance.shuffle(doors)
    return House(8, roads, doors)


def far_houses():
    found = [far_of(house, number) for number, house in enumerate(near_houses()[::2])]
    found += [limit_house(seed) for seed in range(25)] + [far_house(seed) for seed in range(10)]
    return [house for house in found if both_sorts(house)]
