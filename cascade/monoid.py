"""All turns of a machine, with their least words, and their table."""

from cascade.reach import reached
from cascade.turns import behind, still


def all_turns(machine, most=400):
    start = still(len(machine[0]))
    words = reached(start, len(machine), lambda turn, letter: behind(turn, machine[letter]), most)
    return list(words.items())


def table(machine, most=400):
    numbers = {}
    for turn, word in all_turns(machine, most):
        numbers[turn] = len(numbers)
    return [numbers_behind(machine, turn, numbers) for turn in numbers]


def numbers_behind(machine, turn, numbers):
    return tuple([numbers[behind(turn, letter_turn)] for letter_turn in machine])
