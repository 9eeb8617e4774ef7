"""Chains of lots, one within another, and the orders of which they are beginnings."""

from lastbell.given import asked_of


def are_let(house, mosts, wishes):
    """Whether no lot lacks; mosts has, by lots, their most."""
    return all([asked_of(house, wishes, lot) <= mosts[lot] for lot in mosts])


def tight_lots(house, mosts, numbers, times):
    """The lots of which just so many times their most is asked."""
    return [list(lot) for lot in mosts if asked_of(house, numbers, lot) == mosts[lot] * times]


def groups_between(lots):
    """The doors by which each lot is more than the one ahead, along a chain of as many of these lots as can be.

    With two lots the doors in either, and in both, have to be among them: then no chain of as many tells more.
    """
    groups = []
    ahead = []
    for lot in sorted(lots, key=len):
        if len(lot) > len(ahead) and all([door in lot for door in ahead]):
            groups.append([door for door in lot if door not in ahead])
            ahead = lot
    return groups


def in_one(groups):
    """The doors of all groups, one behind another."""
    return [door for group in groups for door in group]
