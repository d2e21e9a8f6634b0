"""The family of a machine: its pictures and its single rooms, and the tiles of these sets."""

from cascade.sets import in_order, lies_in, sets_reached
from cascade.turns import still


def pictures(machine):
    words = sets_reached(machine, still(len(machine[0])))
    return list(words.items())


def family(machine):
    singles = [(room,) for room in range(len(machine[0]))]
    return in_order([rooms for rooms, word in pictures(machine)] + singles)


def is_covered(part, sets):
    return any([other != part and lies_in(part, other) for other in sets])


def tiles(machine, rooms):
    within = [part for part in family(machine) if part != rooms and lies_in(part, rooms)]
    return [part for part in within if not is_covered(part, within)]
