"""The covers of a machine: from the set of all rooms down to the single rooms, level by level."""

from cascade.levels import levels, tiles_of_set
from cascade.sets import in_order
from cascade.turns import still


def parted(machine, cover, level):
    found = []
    for rooms in cover:
        if rooms in level[0]:
            found.extend(tiles_of_set(machine, level, level[0].index(rooms)))
        else:
            found.append(rooms)
    return in_order(found)


def covers(machine):
    cover = [still(len(machine[0]))]
    told = [cover]
    for level in levels(machine):
        cover = parted(machine, cover, level)
        told.append(cover)
    return told
