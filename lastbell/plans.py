"""Plans: how many loads leave, are taken, and go into each road, at which turn."""

from lastbell.changes import change_by_steps, steps_of
from lastbell.errors import BadPlan
from lastbell.given import need_house, need_turn
from lastbell.kinds import is_list
from lastbell.steps import is_steps, passed_ahead

# At one turn a fault of an earlier word comes ahead.
WORDS = ("door", "road", "place")


def plan_fault(house, thing):
    need_house(house)
    if not has_form(house, thing):
        return ("form",)
    doors, roads = thing
    faults = door_faults(house, doors) + road_faults(house, roads) + place_faults(house, doors, roads)
    if not faults:
        return None
    turn, rank, number = min(faults)
    return turn, WORDS[rank], number


def is_plan(house, thing):
    return plan_fault(house, thing) is None


def has_form(house, thing):
    if not is_list(thing) or len(thing) != 2:
        return False
    doors, roads = thing
    return are_steps(doors, len(house.doors())) and are_steps(roads, len(house.roads()))


def are_steps(thing, many):
    return is_list(thing) and len(thing) == many and all([is_steps(steps) for steps in thing])


# Each of the next three tells triples (turn, rank of the word, number), of each number only the first turn.

def door_faults(house, doors):
    faults = []
    for door, (sort, _, hour) in enumerate(house.doors()):
        if sort == "in" and doors[door] and doors[door][0][0] < hour:
            faults.append((doors[door][0][0], 0, door))
    return faults


def road_faults(house, roads):
    faults = []
    for road, (_, _, _, room) in enumerate(house.roads()):
        above = [turn for turn, rate in roads[road] if rate > room]
        if above:
            faults.append((above[0], 1, road))
    return faults


def place_faults(house, doors, roads):
    faults = []
    for place, changes in enumerate(place_changes(house, doors, roads)):
        # What is left over is 0 ahead of the first change, so there it is uneven first.
        uneven = steps_of(changes)
        if uneven:
            faults.append((uneven[0][0], 2, place))
    return faults


def place_changes(house, doors, roads):
    """By places, how what comes there, less what goes on or is taken, changes at which turn."""
    changes = [{} for _ in range(house.places())]
    for (sort, place, _), steps in zip(house.doors(), doors):
        change_by_steps(changes[place], steps, 0, 1 if sort == "in" else -1)
    for (begin, end, length, _), steps in zip(house.roads(), roads):
        change_by_steps(changes[begin], steps, 0, -1)
        change_by_steps(changes[end], steps, length, 1)
    return changes


def need_plan(house, plan):
    if not is_plan(house, plan):
        raise BadPlan(plan)


def brings(house, plan):
    need_house(house)
    need_plan(house, plan)
    return [passed_ahead(steps, steps[-1][0]) if steps else 0 for steps in plan[0]]


def bell_of(house, plan):
    need_house(house)
    need_plan(house, plan)
    bells = [0]
    for (sort, _, hour), steps in zip(house.doors(), plan[0]):
        if sort == "out" and steps:
            bells.append(steps[-1][0] - 1 + hour)
    return max(bells)


def on_roads(house, plan, turn):
    need_house(house)
    need_plan(house, plan)
    need_turn(turn)
    told = []
    for (_, _, length, _), steps in zip(house.roads(), plan[1]):
        told.append(passed_ahead(steps, turn + 1) - passed_ahead(steps, turn + 1 - length))
    return told
