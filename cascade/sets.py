"""Sets of rooms: rising tuples of rooms."""

from cascade.machines import led
from cascade.reach import reached


def place_of(rooms):
    return (-len(rooms), rooms)


def is_ahead(one, other):
    return place_of(one) < place_of(other)


def in_order(sets):
    once = {}
    for rooms in sets:
        once[rooms] = True
    return sorted(once, key=place_of)


def lies_in(one, other):
    return all([room in other for room in one])


def carried(machine, rooms, word):
    return tuple(sorted(set([led(machine, room, word) for room in rooms])))


def turns_about(machine, rooms, word):
    if carried(machine, rooms, word) != rooms:
        return False
    return any([led(machine, room, word) != room for room in rooms])


def sets_reached(machine, rooms):
    return reached(rooms, len(machine), lambda here, letter: carried(machine, here, [letter]))
