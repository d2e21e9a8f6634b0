"""A level's own turns: those of the machine's turns that a level's turning part comes of."""

from cascade.groups import is_own_double
from cascade.monoid import all_turns
from cascade.sets import carried
from cascade.turns import behind


def keeps(turn, rooms):
    return carried((turn,), rooms, [0]) == rooms


def room_count(turn):
    return len(set(turn))


# min tells the first of those that are as little.
def still_like(keepers):
    return min([turn for turn in keepers if is_own_double(turn)], key=room_count)


def own_turns(machine, level, most=400):
    turns = [turn for turn, word in all_turns(machine, most)]
    keepers = [turn for turn in turns if keeps(turn, level[0][0])]
    e = still_like(keepers)
    return sorted(set([turns.index(behind(behind(e, turn), e)) for turn in keepers]))
