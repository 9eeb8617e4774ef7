"""Rows: orders of a parted house that show how wishes are kept, and plans in whole loads that come of them."""

from lastbell.chains import are_let, groups_between, in_one, tight_lots
from lastbell.changes import change_by_steps, steps_of
from lastbell.gaps import Gap
from lastbell.given import is_order, need_bell, need_house, need_wishes
from lastbell.kinds import is_list
from lastbell.orders import corner, mosts_of_lots, plan_by_order
from lastbell.parts import first_wrong_part, parted


def row_for(house, wishes, bell):
    need_house(house)
    need_wishes(house, wishes)
    need_bell(bell)
    mosts = mosts_of_lots(house, bell)
    if not are_let(house, mosts, wishes):
        return None
    parts = []
    groups = groups_between(tight_lots(house, mosts, wishes, 1))
    wide = first_wide(groups)
    while wide is not None:
        gap = Gap(house, wishes, bell, parts, in_one(groups[:wide]), groups[wide])
        more, between = gap.parting()
        parts = parts + more
        groups = groups[:wide] + between + groups[wide + 1:]
        wide = first_wide(groups)
    return parts, in_one(groups)


def first_wide(groups):
    """The index of the first group of several doors, None if each is alone."""
    for index, group in enumerate(groups):
        if len(group) > 1:
            return index
    return None


def is_row_for(house, wishes, bell, thing):
    need_house(house)
    need_wishes(house, wishes)
    need_bell(bell)
    if not is_list(thing) or len(thing) != 2:
        return False
    parts, order = thing
    if first_wrong_part(house, parts) is not None:
        return False
    whole = parted(house, parts)
    if not is_order(whole, order):
        return False
    told = corner(whole, order, bell)
    sums = told[:len(wishes)]
    for (door, _, _), more in zip(parts, told[len(wishes):]):
        sums[door] += more
    return sums == list(wishes)


def plan_for(house, wishes, bell):
    row = row_for(house, wishes, bell)
    if row is None:
        return None
    parts, order = row
    doors, roads = plan_by_order(parted(house, parts), order, bell)
    changes = []
    for steps in doors[:len(house.doors())]:
        changes.append({})
        change_by_steps(changes[-1], steps, 0, 1)
    for (door, _, late), steps in zip(parts, doors[len(changes):]):
        # What leaves a part of an IN would leave the door when it gets there; an OUT takes it when it goes on.
        turns = late if house.doors()[door][0] == "in" else -late
        change_by_steps(changes[door], steps, turns, 1)
    return [steps_of(one) for one in changes], roads[:len(house.roads())]
