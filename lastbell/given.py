"""What is asked of the arguments that many functions share."""

from lastbell.errors import BadBell, BadHouse, BadLot
from lastbell.houses import House
from lastbell.kinds import is_integer, is_list, is_number


def need_house(house):
    if not isinstance(house, House):
        raise BadHouse(house)


def need_bell(bell):
    if not is_number(bell):
        raise BadBell(bell)


def given_lot(house, lot):
    """The lot, ascending, so that all that follows is the same in whatever order it was passed."""
    if not is_lot(house, lot):
        raise BadLot(lot)
    return sorted(lot)


def is_lot(house, thing):
    if not is_list(thing):
        return False
    many = len(house.doors())
    seen = {}
    for door in thing:
        if not is_integer(door) or door < 0 or door >= many or door in seen:
            return False
        seen[door] = True
    return True
