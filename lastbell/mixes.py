"""Mixes: wishes that are kept are a mean of corners, each with a share."""

from math import gcd, lcm

from lastbell.chains import are_let, groups_between, in_one, tight_lots
from lastbell.given import asked_of, is_order, need_bell, need_house, need_wishes
from lastbell.kinds import is_list
from lastbell.orders import corner_by, mosts_of_lots
from lastbell.ratios import fraction, is_fraction, least_fraction


def mix_for(house, wishes, bell):
    """Goes from a corner through the wishes as far as can be, to a point of which more lots are tight, and so on.

    The corner is one at which all lots are tight that are at the point: so from each point to the next one a
    group of doors, among which numbers can still be exchanged, becomes two.
    """
    need_house(house)
    need_wishes(house, wishes)
    need_bell(bell)
    mosts = mosts_of_lots(house, bell)
    if not are_let(house, mosts, wishes):
        return None
    told = []
    point = list(wishes)
    times = 1
    left = 1, 1
    order, end = corner_beside(house, mosts, point, times)
    while point != [one * times for one in end]:
        far, near = stretch(house, mosts, point, times, end)
        told.append((order, fraction(left[0] * (far - near), left[1] * far)))
        left = fraction(left[0] * near, left[1] * far)
        point = [near * times * one + far * (other - times * one) for one, other in zip(end, point)]
        point, times = in_least_numbers(point, times * near)
        order, end = corner_beside(house, mosts, point, times)
    told.append((order, left))
    return told


# A point is numbers by doors, each to be taken by `times`.

def corner_beside(house, mosts, point, times):
    """An order, and its corner, at which all lots are tight that are at the point."""
    order = in_one(groups_between(tight_lots(house, mosts, point, times)))
    return order, corner_by(mosts, order)


def stretch(house, mosts, point, times, end):
    """How many times as far from the corner as the point one can go through it, at most, till a lot is tight."""
    ways = []
    for lot in mosts:
        asked = asked_of(house, end, lot)
        more = asked_of(house, point, lot) - times * asked
        if more > 0:
            ways.append((times * (mosts[lot] - asked), more))
    return least_fraction(ways)


def in_least_numbers(point, times):
    common = times
    for one in point:
        common = gcd(common, one)
    return [one // common for one in point], times // common


def is_mix_for(house, wishes, bell, thing):
    need_house(house)
    need_wishes(house, wishes)
    need_bell(bell)
    if not is_mix(house, thing):
        return False
    times = 1
    for _, share in thing:
        times = lcm(times, share[1])
    mosts = mosts_of_lots(house, bell)
    shares = 0
    sums = [0] * len(wishes)
    for order, (top, bottom) in thing:
        part = top * (times // bottom)
        shares += part
        sums = [total + part * one for total, one in zip(sums, corner_by(mosts, order))]
    return shares == times and sums == [times * one for one in wishes]


def is_mix(house, thing):
    """Whether it is a list of pairs of an order and a fraction above 0."""
    return is_list(thing) and all([is_share(house, pair) for pair in thing])


def is_share(house, thing):
    if not is_list(thing) or len(thing) != 2:
        return False
    order, share = thing
    return is_order(house, order) and is_fraction(share) and share[0] > 0
