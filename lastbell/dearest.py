"""The dearest of the wishes that are kept by a bell."""

from lastbell.errors import BadPrices
from lastbell.given import need_bell, need_house
from lastbell.kinds import is_integer, is_list
from lastbell.orders import corner


def dearest_order(house, bell, prices):
    need_house(house)
    need_bell(bell)
    if not is_list(prices) or len(prices) != len(house.doors()) or not all([is_integer(price) for price in prices]):
        raise BadPrices(prices)
    ranks = []
    for door, (sort, _, _) in enumerate(house.doors()):
        # What an IN has more is more, what an OUT takes more is less of each lot that goes on behind it.
        ranks.append((-prices[door] if sort == "in" else prices[door], door))
    return [door for _, door in sorted(ranks)]


def dearest(house, bell, prices):
    order = dearest_order(house, bell, prices)
    return sum([number * price for number, price in zip(corner(house, order, bell), prices)])
