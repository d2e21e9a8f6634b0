"""Large machines made least by what is seen of their rooms."""

from cascade.reach import reached
from cascade.turns import behind


def parting(turns, seen, one, other):
    words = reached((one, other), len(turns), lambda pair, letter: behind(pair, turns[letter]))
    for pair, word in words.items():
        if seen[pair[0]] != seen[pair[1]]:
            return word
    return None


# The numbers go by what comes first, so they are the same again just where no more rooms are parted.
def numbered(rooms, marks):
    numbers = {}
    found = {}
    for room, mark in zip(rooms, marks):
        found[room] = numbers.setdefault(mark, len(numbers))
    return found


# With each round the rooms are parted that words of one letter more part.
def parted_rooms(turns, seen, rooms):
    numbers = numbered(rooms, [seen[room] for room in rooms])
    while True:
        marks = [(numbers[room], tuple([numbers[turn[room]] for turn in turns])) for room in rooms]
        finer = numbered(rooms, marks)
        if finer == numbers:
            return numbers
        numbers = finer


# The rooms come in the order of their least words, so the first of those that are one room has the least of theirs.
def least(turns, seen, start):
    rooms = list(reached(start, len(turns), lambda room, letter: turns[letter][room]))
    numbers = parted_rooms(turns, seen, rooms)
    firsts = {}
    for room in rooms:
        firsts.setdefault(numbers[room], room)
    kept = list(firsts.values())
    told = [tuple([numbers[turn[room]] for room in kept]) for turn in turns]
    return (tuple(told), tuple([seen[room] for room in kept]))
