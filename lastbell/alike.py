"""Houses held against each other: whether as much gets through from all lots, by all bells."""

from lastbell.alllots import all_lots
from lastbell.errors import OtherDoors
from lastbell.given import need_house
from lastbell.lots import levels, most
from lastbell.orders import corner


def first_unlike(house, other):
    need_house(house)
    need_house(other)
    if [sort for sort, _, _ in house.doors()] != [sort for sort, _, _ in other.doors()]:
        raise OtherDoors()
    found = []
    for lot in all_lots(house):
        bell = first_unlike_bell(levels(house, lot), levels(other, lot))
        if bell is not None:
            found.append((bell, lot))
    return min(found, default=None)


def first_unlike_bell(levels_here, levels_there):
    """The least bell by which these levels bring unlike amounts, None if there is none.

    Up to where they part both bring the same; the shorter length, or both if as long, tells from there on.
    """
    for here, there in zip(levels_here, levels_there):
        if here != there:
            return min(here[0], there[0])
    shared = min(len(levels_here), len(levels_there))
    further = levels_here[shared:] + levels_there[shared:]
    return further[0][0] if further else None


def parting(house, other):
    """A corner of the house of which more gets through from the lot: of this lot it asks just as much."""
    unlike = first_unlike(house, other)
    if unlike is None:
        return None
    bell, lot = unlike
    house_is = most(house, lot, bell) > most(other, lot, bell)
    order = lot + [door for door in range(len(house.doors())) if door not in lot]
    return bell, corner(house if house_is else other, order, bell), house_is
