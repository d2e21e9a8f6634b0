"""How letters turn the tiles of a level's sets, and the group that comes of it."""

from cascade.levels import tiles_of_set
from cascade.reach import reached
from cascade.sets import carried
from cascade.turns import behind, still


def tiles_turned(machine, level, k, letter):
    there = carried(machine, level[0][k], [letter])
    if there not in level[0]:
        return None
    ends = tiles_of_set(machine, level, level[0].index(there))
    return tuple([ends.index(carried(machine, part, [letter])) for part in tiles_of_set(machine, level, k)])


def all_tiles_turned(machine, level):
    found = []
    for k in range(len(level[0])):
        for letter in range(len(machine)):
            turn = tiles_turned(machine, level, k, letter)
            if turn is not None:
                found.append(turn)
    return found


# Each of these turns has a power that undoes it, so what comes of them behind one another is a group.
def level_group(machine, level):
    makers = all_tiles_turned(machine, level)
    return sorted(reached(still(len(level[1])), len(makers), lambda turn, number: behind(turn, makers[number])))


def rests(machine, level):
    return level_group(machine, level) == [still(len(level[1]))]
