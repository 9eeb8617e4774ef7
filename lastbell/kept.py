"""Whether wishes are kept by a bell: judged by a plan, or by a lot of which more is asked than gets through."""

from lastbell.alllots import all_lots, least_lot, lots_of_greatest
from lastbell.given import asked_of, given_lot, is_lot, need_bell, need_house, need_wishes
from lastbell.kinds import is_list
from lastbell.lots import most
from lastbell.moments import is_moments, moments_for, worth
from lastbell.plans import bell_of, brings, is_plan


def asked(house, wishes, lot):
    need_house(house)
    need_wishes(house, wishes)
    chosen = given_lot(house, lot)
    return asked_of(house, wishes, chosen)


def lacking(house, wishes, bell):
    need_house(house)
    need_wishes(house, wishes)
    need_bell(bell)
    return lots_of_greatest([(lot, -left) for lot, left in spares(house, wishes, bell)])


def spares(house, wishes, bell):
    """All lots, each with its most less what is asked: below 0 by as much as it lacks."""
    return [(lot, most(house, lot, bell) - asked_of(house, wishes, lot)) for lot in all_lots(house)]


def lot_for(house, wishes, bell):
    lots = lacking(house, wishes, bell)
    if not lots:
        return None
    lot = least_lot(lots)
    return lot, moments_for(house, lot, bell)


def is_lot_for(house, wishes, bell, thing):
    need_house(house)
    need_wishes(house, wishes)
    need_bell(bell)
    if not is_list(thing) or len(thing) != 2:
        return False
    lot, moments = thing
    if not is_lot(house, lot) or not is_moments(house, lot, bell, moments):
        return False
    return worth(house, moments) < asked_of(house, wishes, lot)


def is_plan_for(house, wishes, bell, thing):
    need_house(house)
    need_wishes(house, wishes)
    need_bell(bell)
    if not is_plan(house, thing) or bell_of(house, thing) > bell:
        return False
    return brings(house, thing) == list(wishes)
