"""The least bell by which wishes are kept, or the lot through which they never are."""

from lastbell.alllots import all_lots, least_lot, lots_of_greatest
from lastbell.errors import Never
from lastbell.given import asked_of, need_house, need_sort, need_wishes
from lastbell.lots import first_bell, levels, lot_bell, most_by


def least_bell(house, wishes):
    need_house(house)
    need_wishes(house, wishes)
    bells = [0]
    for _, amount, pairs in asked_lots(house, wishes):
        if amount > 0:
            if not pairs:
                return None
            bells.append(first_bell(pairs, amount))
    return max(bells)


def never(house, wishes):
    need_house(house)
    need_wishes(house, wishes)
    return least_that_never(asked_lots(house, wishes))


def rising(house, wishes):
    need_house(house)
    need_wishes(house, wishes)
    lots = asked_lots(house, wishes)
    lot = least_that_never(lots)
    if lot is not None:
        raise Never(lot)
    told = []
    bell = 0
    lacks = lacking_at(lots, bell)
    while lacks:
        lot = least_lot(lacks)
        told.append((bell, lot))
        bell = lot_bell(house, lot, asked_of(house, wishes, lot))
        lacks = lacking_at(lots, bell)
    told.append((bell, None))
    return told


def bell_with(house, wishes, door, other):
    need_house(house)
    need_wishes(house, wishes)
    need_sort(house, door, "in")
    need_sort(house, other, "out")
    more = list(wishes)
    more[door] += 1
    more[other] += 1
    return least_bell(house, more)


def asked_lots(house, wishes):
    """All lots, as triples of the lot, what is asked of it, and its levels."""
    return [(lot, asked_of(house, wishes, lot), levels(house, lot)) for lot in all_lots(house)]


def least_that_never(lots):
    """The least lot with the greatest number asked of those through which nothing ever gets, None if it is 0."""
    shut = lots_of_greatest([(lot, amount) for lot, amount, pairs in lots if not pairs])
    return least_lot(shut) if shut else None


def lacking_at(lots, bell):
    """The lots that lack by the most."""
    return lots_of_greatest([(lot, amount - most_by(pairs, bell)) for lot, amount, pairs in lots])
