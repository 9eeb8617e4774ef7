"""The net of a lot: from its INS to the OUTS that are not of it."""

from lastbell.nets import Net


def lot_net(house, lot):
    """Roads are laid first, then all doors, by numbers: a door that is not asked for lets nothing through.

    An IN is an arc from the source, an OUT one to the sink, each as long as its hour: so a way is through
    by the bell just if its length is at most the bell, and can begin once a turn from 0 to what is left.
    These arcs are wider than all roads together, so that they are never used up.
    """
    roads = house.roads()
    net = Net(house.places())
    for begin, end, length, room in roads:
        net.lay(begin, end, length, room)
    wide = 1 + sum([room for _, _, _, room in roads])
    for door, (sort, place, hour) in enumerate(house.doors()):
        if sort == "in":
            net.lay(net.source, place, hour, wide if door in lot else 0)
        else:
            net.lay(place, net.sink, hour, 0 if door in lot else wide)
    return net
