"""Plans by orders of the doors, and the corners that they bring."""

from itertools import permutations

from lastbell.alllots import all_lots
from lastbell.given import asked_of, need_bell, need_house, need_order, need_wishes
from lastbell.lots import most
from lastbell.traffic import Traffic


def plan_by_order(house, order, bell):
    need_house(house)
    need_order(house, order)
    need_bell(bell)
    traffic = Traffic(house, bell)
    for door in reversed(order):
        traffic.turn_over(door)
    return traffic.plan()


def corner(house, order, bell):
    need_house(house)
    need_order(house, order)
    need_bell(bell)
    return differences(order, [most(house, order[:many], bell) for many in range(len(order) + 1)])


def differences(order, mosts):
    """By doors, without sign, by how much most of the beginning that ends with each is unlike the one ahead."""
    told = [0] * len(order)
    for at, door in enumerate(order):
        told[door] = abs(mosts[at + 1] - mosts[at])
    return told


def corners(house, bell):
    need_house(house)
    need_bell(bell)
    mosts = mosts_of_lots(house, bell)
    found = {}
    for order in permutations(range(len(house.doors()))):
        found[tuple(corner_by(mosts, order))] = True
    return [list(told) for told in sorted(found)]


def corner_by(mosts, order):
    """The corner of an order; mosts has, by lots, their most."""
    return differences(order, [mosts[lot] for lot in beginnings(order)])


def order_of(house, wishes, bell):
    need_house(house)
    need_wishes(house, wishes)
    need_bell(bell)
    mosts = mosts_of_lots(house, bell)
    tight = {lot: asked_of(house, wishes, lot) == mosts[lot] for lot in mosts}
    for order in permutations(range(len(wishes))):
        if all([tight[lot] for lot in beginnings(order)]):
            return list(order)
    return None


def mosts_of_lots(house, bell):
    """Most of each lot, by the lots as ascending tuples."""
    return {tuple(lot): most(house, lot, bell) for lot in all_lots(house)}


def beginnings(order):
    """The beginnings of an order, from none of it to all, as ascending tuples."""
    return [tuple(sorted(order[:many])) for many in range(len(order) + 1)]
