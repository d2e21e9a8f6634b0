"""The groups of a machine, among all its turns."""

from cascade.monoid import all_turns
from cascade.turns import behind, rest_of


def is_own_double(turn):
    return behind(turn, turn) == turn


def bears_itself(turn):
    return rest_of(turn)[0] <= 1


# Of the powers of a turn from 1 on just one is the same as itself behind itself.
def doubled_power(turn):
    power = turn
    while not is_own_double(power):
        power = behind(power, turn)
    return power


def groups(machine, most=400):
    turns = [turn for turn, word in all_turns(machine, most)]
    found = {}
    for turn in turns:
        if is_own_double(turn):
            found[turn] = []
    for number, turn in enumerate(turns):
        if bears_itself(turn):
            found[doubled_power(turn)].append(number)
    return list(found.values())
