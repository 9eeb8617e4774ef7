"""Moments of a lot: at its moment a place comes to lie on the lot's side, and what gets across is counted."""

from lastbell.errors import BadMoments
from lastbell.given import given_lot, need_bell, need_house
from lastbell.kinds import is_list, is_number
from lastbell.lotnets import lot_net


def is_moments(house, lot, bell, thing):
    need_house(house)
    chosen = given_lot(house, lot)
    need_bell(bell)
    if not is_list_of_moments(house, thing):
        return False
    for door, (sort, place, hour) in enumerate(house.doors()):
        if sort == "in" and door in chosen and thing[place] > hour:
            return False
        if sort == "out" and door not in chosen and thing[place] <= bell - hour:
            return False
    return True


def is_list_of_moments(house, thing):
    return is_list(thing) and len(thing) == house.places() and all([is_number(one) for one in thing])


def worth(house, moments):
    need_house(house)
    if not is_list_of_moments(house, moments):
        raise BadMoments(moments)
    total = 0
    for begin, end, length, room in house.roads():
        total += room * max(0, moments[end] - moments[begin] - length)
    return total


def moments_for(house, lot, bell):
    """The shortest lengths to all places once no way is left that comes by the bell.

    A way of its own, one turn longer than the bell, lets the places be reached back from where loads come too,
    so that each way on which loads go is worth just the turns at which it can be begun. Cut off at that turn,
    moments are worth no more than before.
    """
    need_house(house)
    chosen = given_lot(house, lot)
    need_bell(bell)
    net = lot_net(house, chosen)
    net.fill(bell)
    net.lay(net.source, net.sink, bell + 1, 1)
    near = net.distances()
    return [bell + 1 if near[place] is None else min(near[place], bell + 1) for place in range(house.places())]
