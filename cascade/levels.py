"""The levels of a machine: the sets of its family that lead to one another, with tiles and ways."""

from cascade.family import family, tiles
from cascade.machines import led
from cascade.sets import carried, sets_reached


def leads(machine, one, other):
    return sets_reached(machine, one).get(other)


def words_between(machine):
    words = {}
    for rooms in family(machine):
        if len(rooms) > 1:
            words[rooms] = sets_reached(machine, rooms)
    return words


def alike_sets(words, rooms):
    return [other for other in words if other in words[rooms] and rooms in words[other]]


# The sets come in their order, so each list begins with its face, and the faces come in their order.
def sets_of_levels(words):
    found = []
    for rooms in words:
        sets = alike_sets(words, rooms)
        if sets[0] == rooms:
            found.append(sets)
    return found


# The sets of a level lead to one another, so what one of them leads to, the face does.
def is_led_to(words, sets, waiting):
    return any([other != sets and sets[0] in words[other[0]] for other in waiting])


# No set leads to one of more rooms, so among the levels of most rooms that wait some one is free;
# and as they wait in the order of their faces, it is the first free one that is due.
def levels_in_order(words, waiting):
    told = []
    while waiting:
        free = [sets for sets in waiting if not is_led_to(words, sets, waiting)]
        told.append(free[0])
        waiting = [sets for sets in waiting if sets != free[0]]
    return told


def levels(machine):
    words = words_between(machine)
    told = []
    for sets in levels_in_order(words, sets_of_levels(words)):
        face = sets[0]
        ways = [words[face][rooms] for rooms in sets]
        told.append((sets, tiles(machine, face), ways))
    return told


def carry(machine, level, k):
    return tuple([led(machine, room, level[2][k]) for room in level[0][0]])


def tile(machine, level, k, j):
    return carried(machine, level[1][j], level[2][k])


def tiles_of_set(machine, level, k):
    return [tile(machine, level, k, j) for j in range(len(level[1]))]
