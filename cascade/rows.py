"""The row of a machine: turning and bringing parts, each told its move by the rooms ahead and the letter."""

from cascade.levels import levels, tiles_of_set
from cascade.sets import carried, lies_in
from cascade.tilings import level_group, tiles_turned
from cascade.turns import behind, still


# The rooms of a level's parts go as a pair (turning, bringing). A level that rests has no turning part, but its group
# has the still turn as number 0, so with 0 in that place all is done alike for both kinds of levels.
class LevelParts:
    def __init__(self, machine, level):
        self.machine = machine
        self.group = level_group(machine, level)
        self.tiles = {}
        self.turns = {}
        for k, rooms in enumerate(level[0]):
            self.tiles[rooms] = tiles_of_set(machine, level, k)
            self.turns[rooms] = [tiles_turned(machine, level, k, letter) for letter in range(len(machine))]
        self.tile_count = len(level[1])

    def is_turning(self):
        return len(self.group) > 1

    def within(self, here, pair):
        if here not in self.tiles:
            return here
        return self.tiles[here][self.group[pair[0]][pair[1]]]

    def least_tile(self, here, rooms):
        return [lies_in(rooms, part) for part in self.tiles[here]].index(True)

    # All three cases come to one form: a turn to be put behind that of the turning part, perhaps the still one,
    # and the number of the tile to which the bringing part is brought, or None where its room stays.
    def deed_of(self, here, there, letter):
        still_turn = self.group[0]
        if there not in self.tiles:
            return (still_turn, None)
        end = carried(self.machine, here, [letter])
        if here in self.tiles and end == there:
            return (self.turns[here][letter], None)
        return (still_turn, self.least_tile(there, end))

    def turned(self, deed, turning):
        return self.group.index(behind(self.group[turning], deed[0]))

    # Where the bringing part is brought, the turning part's room stays, so it is no matter whether its old or
    # its new room is taken here.
    def brought(self, deed, turning, bringing):
        if deed[1] is None:
            return bringing
        return self.group[turning].index(deed[1])

    def pair_behind(self, deed, pair):
        return (self.turned(deed, pair[0]), self.brought(deed, pair[0], pair[1]))


class Row:
    def __init__(self, machine):
        self.rooms = still(len(machine[0]))
        self.steps = [LevelParts(machine, level) for level in levels(machine)]

    def parts(self):
        found = []
        for number, step in enumerate(self.steps):
            if step.is_turning():
                found.append(("turn", number, len(step.group)))
            found.append(("bring", number, step.tile_count))
        return found

    def paired(self, row):
        pairs = []
        place = 0
        for step in self.steps:
            turning = 0
            if step.is_turning():
                turning = row[place]
                place += 1
            pairs.append((turning, row[place]))
            place += 1
        return pairs

    def unpaired(self, pairs):
        row = []
        for step, pair in zip(self.steps, pairs):
            if step.is_turning():
                row.append(pair[0])
            row.append(pair[1])
        return tuple(row)

    def told(self, row):
        here = self.rooms
        for step, pair in zip(self.steps, self.paired(row)):
            here = step.within(here, pair)
        return here[0]

    # Goes through as many levels as there are pairs: the set that the old rooms tell behind them, the one that
    # the new rooms tell, and the new rooms.
    def walked(self, pairs, letter):
        here = self.rooms
        there = self.rooms
        ends = []
        for step, pair in zip(self.steps, pairs):
            end = step.pair_behind(step.deed_of(here, there, letter), pair)
            here = step.within(here, pair)
            there = step.within(there, end)
            ends.append(end)
        return (here, there, ends)

    def moved(self, row, letter):
        return self.unpaired(self.walked(self.paired(row), letter)[2])

    def move(self, n, ahead, letter):
        part = self.parts()[n]
        step = self.steps[part[1]]
        # What the parts from this one on are in does not count, so any rooms fill the row up.
        pairs = self.paired(ahead + (0,) * (len(self.parts()) - n))
        sets = self.walked(pairs[:part[1]], letter)
        deed = step.deed_of(sets[0], sets[1], letter)
        if part[0] == "turn":
            return tuple([step.turned(deed, room) for room in range(part[2])])
        turning = pairs[part[1]][0]
        return tuple([step.brought(deed, turning, room) for room in range(part[2])])

    def row_of(self, room):
        here = self.rooms
        pairs = []
        for step in self.steps:
            pair = (0, step.least_tile(here, (room,)) if here in step.tiles else 0)
            here = step.within(here, pair)
            pairs.append(pair)
        return self.unpaired(pairs)

    def gone(self, row, word):
        for letter in word:
            row = self.moved(row, letter)
        return row
