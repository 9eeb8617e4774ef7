"""How much gets from a lot of doors to the others, by one bell and by all bells."""

from lastbell.changes import change_between, steps_of
from lastbell.errors import BadAmount
from lastbell.given import given_lot, need_bell, need_house
from lastbell.kinds import is_number
from lastbell.lotnets import lot_net


def most(house, lot, bell):
    need_house(house)
    chosen = given_lot(house, lot)
    need_bell(bell)
    return most_by(lot_net(house, chosen).fill(bell), bell)


def most_plan(house, lot, bell):
    need_house(house)
    chosen = given_lot(house, lot)
    need_bell(bell)
    net = lot_net(house, chosen)
    net.fill(bell)
    steps = repeated(net, bell)
    many = len(house.roads())
    return steps[many:], steps[:many]


def levels(house, lot):
    need_house(house)
    chosen = given_lot(house, lot)
    return lot_net(house, chosen).fill(None)


def steady(house, lot):
    return sum([amount for _, amount in levels(house, lot)])


def lot_bell(house, lot, amount):
    need_house(house)
    chosen = given_lot(house, lot)
    if not is_number(amount):
        raise BadAmount(amount)
    if amount == 0:
        return 0
    return first_bell(lot_net(house, chosen).fill(None), amount)


def most_by(pairs, bell):
    """What these levels bring by a bell."""
    return sum([amount * (bell + 1 - length) for length, amount in pairs if length <= bell])


def first_bell(pairs, amount):
    """The least bell at which these levels bring the amount, above 0; None if they never do.

    By each bell the levels up to it bring more than any other beginning of the list would, the later ones
    counted below 0: so the least bell is the least of those at which some beginning brings the amount.
    """
    rate = 0
    lost = 0
    bells = []
    for length, more in pairs:
        rate += more
        lost += more * length
        bells.append((amount + lost + rate - 1) // rate - 1)
    return min(bells, default=None)


def repeated(net, bell):
    """The steps of all that was laid, by numbers, if each way that flows is gone again at every turn.

    It is gone from turn 0 on, reckoned from the source, up to the last turn that is still through by the bell.
    """
    changes = [{} for _ in range(len(net.ends) // 2)]
    for way, amount in net.ways():
        ends = turns_behind(net, way)
        starts = bell + 1 - ends[-1]
        # A load leaves an IN when the arc of this door, which only stands for its hour, is behind it.
        for arc, turn in zip(way, [ends[0], *ends[:-1]]):
            change_between(changes[arc // 2], turn, turn + starts, amount)
    return [steps_of(one) for one in changes]


def turns_behind(net, way):
    """The turns at which each arc of a way is behind a load that leaves the source at 0."""
    turn = 0
    ends = []
    for arc in way:
        turn += net.lengths[arc]
        ends.append(turn)
    return ends
