"""What is asked of the arguments that many functions share."""

from lastbell.errors import BadBell, BadDoor, BadHouse, BadLot, BadNumbers, BadOrder, BadTurn, BadWishes
from lastbell.houses import House
from lastbell.kinds import is_integer, is_list, is_number


def need_house(house):
    if not isinstance(house, House):
        raise BadHouse(house)


def need_bell(bell):
    if not is_number(bell):
        raise BadBell(bell)


def need_turn(turn):
    if not is_number(turn):
        raise BadTurn(turn)


def given_lot(house, lot):
    """The lot, ascending, so that all that follows is the same in whatever order it was passed."""
    if not is_lot(house, lot):
        raise BadLot(lot)
    return sorted(lot)


def need_door(house, door):
    """The number of any door is asked for."""
    if not is_number(door) or door >= len(house.doors()):
        raise BadDoor(door)


def need_sort(house, door, sort):
    """The number of a door of this sort is asked for."""
    need_door(house, door)
    if house.doors()[door][0] != sort:
        raise BadDoor(door)


def need_order(house, order):
    if not is_order(house, order):
        raise BadOrder(order)


def need_numbers(house, numbers):
    if not is_numbers(house, numbers):
        raise BadNumbers(numbers)


def need_wishes(house, wishes):
    if not is_numbers(house, wishes) or asked_of(house, wishes, list(range(len(wishes)))) != 0:
        raise BadWishes(wishes)


def is_lot(house, thing):
    if not is_list(thing):
        return False
    many = len(house.doors())
    seen = {}
    for door in thing:
        if not is_integer(door) or door < 0 or door >= many or door in seen:
            return False
        seen[door] = True
    return True


def is_order(house, thing):
    return is_lot(house, thing) and len(thing) == len(house.doors())


def is_numbers(house, thing):
    """Whether it is a list of numbers, one for each door."""
    return is_list(thing) and len(thing) == len(house.doors()) and all([is_number(one) for one in thing])


def asked_of(house, numbers, lot):
    """What the INS of a lot have less what its OUTS want."""
    doors = house.doors()
    return sum([numbers[door] if doors[door][0] == "in" else -numbers[door] for door in lot])
