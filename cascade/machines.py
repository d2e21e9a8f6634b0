"""Machines: tuples of turns of rooms, one turn for each letter."""

from cascade.errors import NoMachine

MOST_LETTERS = 4
MOST_ROOMS = 5


def is_whole(thing):
    # True and False are ints to Python, but no whole numbers here.
    return isinstance(thing, int) and not isinstance(thing, bool)


def is_room(thing, rooms):
    return is_whole(thing) and 0 <= thing < rooms


def is_turn(thing, rooms):
    if not isinstance(thing, tuple) or len(thing) != rooms:
        return False
    return all([is_room(room, rooms) for room in thing])


# The refusals don't show the thing: it may be anything at all, and as large as it likes.
def check(thing):
    if not isinstance(thing, tuple):
        raise NoMachine("a machine is a tuple of turns")
    if not 1 <= len(thing) <= MOST_LETTERS:
        raise NoMachine(f"a machine has one to {MOST_LETTERS} letters")
    first = thing[0]
    if not isinstance(first, tuple) or not 1 <= len(first) <= MOST_ROOMS:
        raise NoMachine(f"a turn of a machine is a tuple of one to {MOST_ROOMS} rooms")
    for turn in thing:
        if not is_turn(turn, len(first)):
            raise NoMachine("each turn of a machine has as many whole numbers, from 0 to below their count")


def led(machine, room, word):
    for letter in word:
        room = machine[letter][room]
    return room


def turn_of(machine, word):
    return tuple([led(machine, room, word) for room in range(len(machine[0]))])
