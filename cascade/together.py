"""The row of a machine put together to one large machine, whose rooms are rows of rooms."""

from cascade.reach import reached
from cascade.rows import Row


def together(machine, room, most=400):
    row = Row(machine)
    words = reached(row.row_of(room), len(machine), lambda rooms, letter: row.moved(rooms, letter), most)
    numbers = {}
    for rooms in words:
        numbers[rooms] = len(numbers)
    turns = [tuple([numbers[row.moved(rooms, letter)] for rooms in numbers]) for letter in range(len(machine))]
    return (list(numbers), tuple(turns))
