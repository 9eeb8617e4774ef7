"""The house turned about, in which all that goes from INS to OUTS goes back."""

from lastbell.errors import BadBell
from lastbell.given import need_bell, need_house
from lastbell.houses import House
from lastbell.plans import bell_of, need_plan
from lastbell.steps import later


def turned(house):
    need_house(house)
    roads = [(end, begin, length, room) for begin, end, length, room in house.roads()]
    doors = [("out" if sort == "in" else "in", place, hour) for sort, place, hour in house.doors()]
    return House(house.places(), roads, doors)


def turned_plan(house, plan, bell):
    need_house(house)
    need_plan(house, plan)
    need_bell(bell)
    if bell_of(house, plan) > bell:
        raise BadBell(bell)
    doors, roads = plan
    ends = [later(steps, length) for (_, _, length, _), steps in zip(house.roads(), roads)]
    return [turned_steps(steps, bell) for steps in doors], [turned_steps(steps, bell) for steps in ends]


def turned_steps(steps, bell):
    """Each turn as far ahead of the bell as it was behind 0: so where a rate ended, it begins one turn later."""
    befores = [0] + [rate for _, rate in steps]
    return [(bell + 1 - turn, before) for (turn, _), before in zip(steps, befores)][::-1]
