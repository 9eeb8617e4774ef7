"""What kept wishes could have more, or elsewhere, and how many times as much could be."""

from lastbell.alllots import least_lot, lots_of_greatest
from lastbell.errors import NotKept, SameDoor
from lastbell.given import asked_of, need_bell, need_door, need_house, need_wishes
from lastbell.kept import spares
from lastbell.orders import mosts_of_lots
from lastbell.ratios import least_fraction


def further(house, wishes, bell, up, down):
    need_house(house)
    need_wishes(house, wishes)
    need_bell(bell)
    need_door(house, up)
    need_door(house, down)
    if up == down:
        raise SameDoor(down)
    return least_between(kept_spares(house, wishes, bell), up, down)


def least_between(pairs, up, down):
    """The least that is left of the lots with one door and without the other; pairs are of lots and what is left."""
    return min([left for lot, left in pairs if up in lot and down not in lot])


def kept_spares(house, wishes, bell):
    """As spares, of wishes that are kept."""
    pairs = spares(house, wishes, bell)
    lacks = lots_of_greatest([(lot, -left) for lot, left in pairs])
    if lacks:
        raise NotKept(least_lot(lacks))
    return pairs


def tight(house, wishes, bell):
    need_house(house)
    need_wishes(house, wishes)
    need_bell(bell)
    return [lot for lot, left in kept_spares(house, wishes, bell) if left == 0]


def bound(house, wishes, bell, door):
    need_house(house)
    need_wishes(house, wishes)
    need_bell(bell)
    need_door(house, door)
    return least_lot([lot for lot, left in kept_spares(house, wishes, bell) if left == 0 and door in lot])


def times(house, wishes, bell):
    need_house(house)
    need_wishes(house, wishes)
    need_bell(bell)
    mosts = mosts_of_lots(house, bell)
    pairs = [(mosts[lot], asked_of(house, wishes, lot)) for lot in mosts]
    above = [(most, amount) for most, amount in pairs if amount > 0]
    return least_fraction(above) if above else None


def whole_times(house, wishes, bell):
    told = times(house, wishes, bell)
    return None if told is None else told[0] // told[1]
