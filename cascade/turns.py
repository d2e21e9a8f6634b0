"""Turns: tuples that tell for each thing, by its number, to which thing they lead."""


def still(rooms):
    return tuple(range(rooms))


def behind(one, other):
    return tuple([other[room] for room in one])


def rest_of(turn):
    # There are finitely many turns of so many things, so some power comes again;
    # the first one that does is the power begin, and it comes again after one round.
    numbers = {}
    power = still(len(turn))
    while power not in numbers:
        numbers[power] = len(numbers)
        power = behind(power, turn)
    begin = numbers[power]
    return (begin, len(numbers) - begin)
