"""What of a machine comes to rest, and what turns about."""

from cascade.levels import carry, levels
from cascade.monoid import all_turns
from cascade.reach import reached
from cascade.sets import carried
from cascade.tilings import rests, tiles_turned
from cascade.turns import behind, rest_of, still


def all_rests(machine, most=400):
    return [rest_of(turn) for turn, word in all_turns(machine, most)]


def first_turned(machine, level):
    still_turn = still(len(level[1]))
    for k in range(len(level[0])):
        for letter in range(len(machine)):
            turn = tiles_turned(machine, level, k, letter)
            if turn is not None and turn != still_turn:
                return (k, letter)
    return None


# The rooms go as a row with places, not as a set: each has to come to the room at its place.
def word_back(machine, level, m):
    words = reached(carry(machine, level, m), len(machine), lambda rooms, letter: behind(rooms, machine[letter]))
    return words[level[0][0]]


def about(machine):
    turning = [level for level in levels(machine) if not rests(machine, level)]
    if not turning:
        return None
    level = turning[0]
    found = first_turned(machine, level)
    m = level[0].index(carried(machine, level[0][found[0]], [found[1]]))
    return (level[2][found[0]] + [found[1]] + word_back(machine, level, m), level[0][0])
