"""Parts of doors: each a door of its own, behind a road that lets so many through, so late."""

from lastbell.errors import BadParts
from lastbell.given import need_house
from lastbell.houses import House
from lastbell.kinds import is_integer, is_list, is_number


def parted(house, parts):
    need_house(house)
    wrong = first_wrong_part(house, parts)
    if wrong is not None:
        raise BadParts(wrong)
    places = house.places()
    roads = house.roads()
    doors = house.doors()
    for door, room, late in parts:
        sort, place, hour = doors[door]
        if sort == "in":
            roads.append((places, place, late, room))
        else:
            roads.append((place, places, late, room))
        doors.append((sort, places, hour))
        places += 1
    return House(places, roads, doors)


def first_wrong_part(house, thing):
    """The index of the first thing that is no part, 0 for no list, None for none."""
    if not is_list(thing):
        return 0
    many = len(house.doors())
    for index, part in enumerate(thing):
        if not is_part(many, part):
            return index
    return None


def is_part(many, thing):
    """Whether it is a part of one of so many doors."""
    if not is_list(thing) or len(thing) != 3:
        return False
    door, room, late = thing
    return is_number(door) and door < many and is_integer(room) and room > 0 and is_number(late)
