"""All lots of a house, and choices among them."""


def all_lots(house):
    """All lots, ascending as lists compare."""
    return lots_among(list(range(len(house.doors()))))


def lots_among(doors):
    """All lots of these doors, whose numbers rise, ascending as lists compare."""
    lots = [[]]
    for door in doors:
        lots = lots + [[*lot, door] for lot in lots]
    return sorted(lots)


def lots_of_greatest(pairs):
    """The lots of pairs (lot, amount) with the greatest amount, [] if none is above 0."""
    greatest = max([amount for _, amount in pairs])
    if greatest <= 0:
        return []
    return [lot for lot, amount in pairs if amount == greatest]


def least_lot(lots):
    """The one that is within each other one, where there is one: so no other has as few doors."""
    return min(lots, key=len)
