"""As much as can be, if not all can."""

from lastbell.alllots import all_lots, least_lot
from lastbell.given import asked_of, need_bell, need_house, need_numbers
from lastbell.lots import most


def part_for(house, numbers, bell):
    """Each IN in turn has as much as it can, if all OUTS want their numbers; then each OUT as little as it can.

    More is never possible: what an IN is refused is refused by a lot with it of which just most is asked, and
    stays so. At last each OUT that has anything is in such a lot, so together they have no more than the INS.
    """
    need_house(house)
    need_numbers(house, numbers)
    need_bell(bell)
    mosts = [(lot, most(house, lot, bell)) for lot in all_lots(house)]
    ins = [door for door, (sort, _, _) in enumerate(house.doors()) if sort == "in"]
    outs = [door for door, (sort, _, _) in enumerate(house.doors()) if sort == "out"]
    told = [0 if door in ins else numbers[door] for door in range(len(numbers))]
    for door in ins:
        told[door] = min(numbers[door], least_left(house, told, mosts, door))
    for door in outs:
        # Of this OUT alone nothing is asked then, and nothing gets through: so what lacks is never below 0.
        told[door] = 0
        told[door] = -least_left(house, told, mosts, door)
    return told


def least_left(house, told, mosts, door):
    """The least, over the lots with a door, of most less what these numbers ask; below 0 if some lot lacks."""
    return min([amount - asked_of(house, told, lot) for lot, amount in mosts if door in lot])


def part_lot(house, numbers, bell):
    need_house(house)
    need_numbers(house, numbers)
    need_bell(bell)
    sums = [(lot, most(house, lot, bell) + not_let(house, numbers, lot)) for lot in all_lots(house)]
    least = min([amount for _, amount in sums])
    return least_lot([lot for lot, amount in sums if amount == least])


def not_let(house, numbers, lot):
    """The numbers of INS outside a lot and of OUTS in it: of these the lot says nothing."""
    told = 0
    for door, (sort, _, _) in enumerate(house.doors()):
        if (door in lot) == (sort == "out"):
            told += numbers[door]
    return told
