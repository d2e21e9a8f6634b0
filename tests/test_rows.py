import itertools
import unittest

from cascade.levels import levels, tile
from cascade.rows import Row
from cascade.tilings import level_group, rests, tiles_turned
from samples import (
    EVERY_TURN_OF_FOUR, EXCHANGES, FLAT, KNOWN, RING, TURNS_400, TURNS_3125, UP_AND_DOWN, UP_AND_SWAP, figures,
    machines, own_lists, slow_behind, slow_carried, slow_led, some_rows,
)

# Its first level rests, its second one does not.
LOW_TURNS = ((2, 2, 1), (0, 2, 0))
ONE_ROOM = (((0,),), ((0,), (0,)), ((0,), (0,), (0,), (0,)))


class SlowLevel:
    """A level as the points tell it, and the places of its parts in a row of rooms."""

    def __init__(self, machine, level, place):
        self.sets = level[0]
        self.tiles = [[tile(machine, level, k, j) for j in range(len(level[1]))] for k in range(len(level[0]))]
        self.turned = [[tiles_turned(machine, level, k, letter) for letter in range(len(machine))]
                       for k in range(len(level[0]))]
        self.group = level_group(machine, level)
        self.rests = rests(machine, level)
        self.turning = None if self.rests else place
        self.bringing = place if self.rests else place + 1

    def tile_number(self, row):
        x = row[self.bringing]
        return x if self.rests else self.group[row[self.turning]][x]

    def tile_of(self, here, row):
        if here not in self.sets:
            return here
        return self.tiles[self.sets.index(here)][self.tile_number(row)]


class SlowRow:
    def __init__(self, machine):
        self.machine = machine
        self.levels = []
        self.met = []
        place = 0
        for level in levels(machine):
            self.levels.append(SlowLevel(machine, level, place))
            place = self.levels[-1].bringing + 1

    def parts(self):
        found = []
        for number, level in enumerate(self.levels):
            if not level.rests:
                found.append(("turn", number, len(level.group)))
            found.append(("bring", number, len(level.tiles[0])))
        return found

    def told(self, row):
        here = tuple(range(len(self.machine[0])))
        for level in self.levels:
            here = level.tile_of(here, row)
        (room,) = here
        return room

    def moved(self, row, letter):
        here = there = tuple(range(len(self.machine[0])))
        new = list(row)
        for level in self.levels:
            end = slow_carried(self.machine, here, [letter])
            if there not in level.sets:
                self.met.append(("stays", level.rests))
            elif here in level.sets and end == there:
                self.met.append(("turns", level.rests))
                if not level.rests:
                    h = level.turned[level.sets.index(here)][letter]
                    new[level.turning] = level.group.index(slow_behind(level.group[row[level.turning]], h))
            else:
                self.met.append(("brings", level.rests))
                parts = level.tiles[level.sets.index(there)]
                number = min(j for j, part in enumerate(parts) if set(end) <= set(part))
                for x in range(len(parts)):
                    new[level.bringing] = x
                    if level.tile_number(new) == number:
                        break
            here = level.tile_of(here, row)
            there = level.tile_of(there, new)
        return tuple(new)

    def row_of(self, room):
        here = tuple(range(len(self.machine[0])))
        row = [0] * len(self.parts())
        for level in self.levels:
            if here in level.sets:
                parts = level.tiles[level.sets.index(here)]
                row[level.bringing] = min(j for j, part in enumerate(parts) if room in part)
            here = level.tile_of(here, row)
        return tuple(row)


def counts_of(row):
    return [many for word, level, many in row.parts()]


class Parts(unittest.TestCase):
    def test_one_room_has_no_parts(self):
        for machine in ONE_ROOM:
            self.assertEqual(Row(machine).parts(), [])

    def test_levels_that_rest(self):
        self.assertEqual(Row(((0, 1),)).parts(), [("bring", 0, 2)])
        self.assertEqual(Row(FLAT).parts(), [("bring", 0, 5)])
        self.assertEqual(Row(UP_AND_DOWN).parts(), [("bring", number, 2) for number in range(4)])

    def test_levels_that_do_not(self):
        self.assertEqual(Row(RING).parts(), [("turn", 0, 5), ("bring", 0, 5)])
        self.assertEqual(Row(EXCHANGES).parts(), [("turn", 0, 120), ("bring", 0, 5)])
        self.assertEqual(Row(EVERY_TURN_OF_FOUR).parts(), [
            ("turn", 0, 24), ("bring", 0, 4), ("turn", 1, 6), ("bring", 1, 3), ("turn", 2, 2), ("bring", 2, 2)])

    def test_both(self):
        self.assertEqual(Row(UP_AND_SWAP).parts(), [("turn", 0, 2), ("bring", 0, 2), ("bring", 1, 2)])
        self.assertEqual(Row(LOW_TURNS).parts(), [("bring", 0, 2), ("turn", 1, 2), ("bring", 1, 2)])

    def test_each_level_has_its_parts(self):
        for machine in machines(20):
            told = Row(machine).parts()
            self.assertIs(type(told), list)
            self.assertEqual({type(part) for part in told} - {tuple}, set())
            self.assertEqual(told, SlowRow(machine).parts())


class Told(unittest.TestCase):
    def test_known_rows(self):
        row = Row(UP_AND_SWAP)
        told = [row.told(rooms) for rooms in itertools.product(range(2), repeat=3)]
        # The tiles of all rooms are (0, 2) and (1, 2); turned, they go the other way round.
        self.assertEqual(told, [0, 2, 1, 2, 1, 2, 0, 2])

    def test_one_room(self):
        for machine in ONE_ROOM:
            self.assertEqual(Row(machine).told(()), 0)

    def test_as_it_is_read(self):
        for machine in machines(10):
            row = Row(machine)
            slow = SlowRow(machine)
            for rooms in some_rows(counts_of(row), 200):
                self.assertEqual(row.told(rooms), slow.told(rooms))

    def test_each_room_is_told_by_some_row(self):
        for machine in machines(4):
            row = Row(machine)
            if len(some_rows(counts_of(row), 2000)) < 2000:
                told = {row.told(rooms) for rooms in some_rows(counts_of(row), 2000)}
                self.assertEqual(told, set(range(len(machine[0]))))


class RowOf(unittest.TestCase):
    def test_known_rooms(self):
        self.assertEqual([Row(UP_AND_SWAP).row_of(room) for room in range(3)], [(0, 0, 0), (0, 1, 0), (0, 0, 1)])
        self.assertEqual([Row(RING).row_of(room) for room in range(5)], [(0, room) for room in range(5)])
        self.assertEqual([Row(FLAT).row_of(room) for room in range(5)], [(room,) for room in range(5)])

    def test_zero_where_the_set_is_none_of_the_levels(self):
        machine = ((1, 2, 3, 3), (0, 1, 1, 1))
        row = Row(machine)
        sets = [level[0] for level in levels(machine)]
        self.assertEqual(sets, [[(0, 1, 2, 3)], [(1, 2, 3)], [(0, 1)], [(1, 2)], [(2, 3)]])
        told = [row.row_of(room) for room in range(4)]
        self.assertEqual(told, [(1, 0, 0, 0, 0), (0, 0, 0, 0, 0), (0, 0, 0, 1, 0), (0, 1, 0, 0, 1)])

    def test_one_room(self):
        for machine in ONE_ROOM:
            self.assertEqual(Row(machine).row_of(0), ())

    def test_each_room_is_told_by_its_own_row(self):
        for machine in machines(20):
            row = Row(machine)
            for room in range(len(machine[0])):
                told = row.row_of(room)
                self.assertIs(type(told), tuple)
                self.assertEqual(row.told(told), room)

    def test_turning_parts_at_0_and_the_least_tiles(self):
        for machine in machines(20):
            row = Row(machine)
            slow = SlowRow(machine)
            for room in range(len(machine[0])):
                told = row.row_of(room)
                self.assertEqual(told, slow.row_of(room))
                self.assertEqual({told[n] for n, part in enumerate(row.parts()) if part[0] == "turn"} - {0}, set())


class Moved(unittest.TestCase):
    def test_known_moves(self):
        row = Row(UP_AND_SWAP)
        self.assertEqual(row.moved((0, 0, 0), 1), (1, 0, 0))
        self.assertEqual(row.moved((1, 0, 0), 1), (0, 0, 0))
        self.assertEqual(row.moved((0, 0, 0), 0), (0, 1, 0))
        self.assertEqual(row.moved((1, 1, 0), 0), (1, 0, 0))
        self.assertEqual(row.moved((0, 0, 1), 0), (0, 1, 1))

    def test_one_room(self):
        for machine in ONE_ROOM:
            for letter in range(len(machine)):
                self.assertEqual(Row(machine).moved((), letter), ())

    def test_as_the_three_cases_tell(self):
        met = []
        for machine in machines(10):
            row = Row(machine)
            slow = SlowRow(machine)
            for rooms in some_rows(counts_of(row), 60):
                for letter in range(len(machine)):
                    told = row.moved(rooms, letter)
                    self.assertIs(type(told), tuple)
                    self.assertEqual(told, slow.moved(rooms, letter))
            met += slow.met
        self.assertEqual(set(met), set(itertools.product(("stays", "turns", "brings"), (True, False))))

    def test_what_is_told_then_is_where_the_letter_leads(self):
        for machine in machines(10):
            row = Row(machine)
            for rooms in some_rows(counts_of(row), 200):
                for letter, turn in enumerate(machine):
                    self.assertEqual(row.told(row.moved(rooms, letter)), turn[row.told(rooms)])


class Move(unittest.TestCase):
    def test_known_moves(self):
        row = Row(UP_AND_SWAP)
        self.assertEqual(row.move(0, (), 0), (0, 1))
        self.assertEqual(row.move(0, (), 1), (1, 0))
        self.assertEqual(row.move(1, (0,), 0), (1, 1))
        self.assertEqual(row.move(1, (1,), 0), (0, 0))
        self.assertEqual(row.move(1, (1,), 1), (0, 1))
        self.assertEqual(row.move(2, (0, 0), 0), (0, 1))
        self.assertEqual(row.move(2, (0, 1), 0), (1, 1))

    def test_a_turn_behind_is_not_a_turn_ahead(self):
        row = Row(EXCHANGES)
        group = list(itertools.permutations(range(5)))
        for letter, turn in enumerate(EXCHANGES):
            ends = tuple(group.index(slow_behind(g, turn)) for g in group)
            self.assertEqual(row.move(0, (), letter), ends)
            self.assertNotEqual(ends, tuple(group.index(slow_behind(turn, g)) for g in group))

    def test_as_the_rows_are_moved(self):
        for machine in machines(4):
            row = Row(machine)
            counts = counts_of(row)
            for n, count in enumerate(counts):
                for ahead in some_rows(counts[:n], 6):
                    for letter in range(len(machine)):
                        told = row.move(n, ahead, letter)
                        self.assertIs(type(told), tuple)
                        self.assertEqual(len(told), count)
                        self.each_row_behind(row, n, ahead, letter, told)

    def each_row_behind(self, row, n, ahead, letter, told):
        for behind in some_rows(counts_of(row)[n + 1:], 3):
            for room in range(min(len(told), 8)):
                self.assertEqual(row.moved(ahead + (room,) + behind, letter)[n], told[room])

    def test_each_is_of_its_kind(self):
        for machine in machines(6):
            row = Row(machine)
            groups = [level_group(machine, level) for level in levels(machine)]
            counts = counts_of(row)
            for n, (word, number, many) in enumerate(row.parts()):
                for ahead in some_rows(counts[:n], 6):
                    for letter in range(len(machine)):
                        told = row.move(n, ahead, letter)
                        if word == "turn":
                            self.is_of_a_turning_part(groups[number], told)
                        else:
                            self.assertTrue(told == tuple(range(many)) or len(set(told)) == 1)

    def is_of_a_turning_part(self, group, told):
        h = group[told[0]]
        self.assertEqual([group[room] for room in told], [slow_behind(g, h) for g in group])


class Gone(unittest.TestCase):
    def test_no_letters(self):
        for machine in KNOWN:
            row = Row(machine)
            for rooms in some_rows(counts_of(row), 20):
                self.assertEqual(row.gone(rooms, []), rooms)

    def test_one_letter(self):
        for machine in KNOWN:
            row = Row(machine)
            for rooms in some_rows(counts_of(row), 20):
                for letter in range(len(machine)):
                    self.assertEqual(row.gone(rooms, [letter]), row.moved(rooms, letter))

    def test_several_letters_one_by_one(self):
        row = Row(UP_AND_SWAP)
        self.assertEqual(row.gone((0, 0, 0), [0, 1]), row.moved((0, 1, 0), 1))
        self.assertEqual(row.gone((0, 0, 0), [1, 0]), row.moved((1, 0, 0), 0))
        self.assertNotEqual(row.gone((0, 0, 0), [0, 1]), row.gone((0, 0, 0), [1, 0]))

    def test_words_of_400_letters(self):
        for number, machine in enumerate(machines(2)):
            row = Row(machine)
            draw = figures(number)
            word = [next(draw) % len(machine) for place in range(400)]
            for rooms in some_rows(counts_of(row), 3):
                told = row.gone(rooms, word)
                self.assertIs(type(told), tuple)
                self.assertEqual(row.told(told), slow_led(machine, row.told(rooms), word))
                self.assertEqual(told, row.gone(row.gone(rooms, word[:150]), word[150:]))
                for letter in word:
                    rooms = row.moved(rooms, letter)
                self.assertEqual(told, rooms)


class OwnLists(unittest.TestCase):
    def test_what_is_told_is_the_askers_own(self):
        for machine in machines(1):
            row = Row(machine)
            rooms = row.row_of(0)
            own_lists(self, row.parts)
            own_lists(self, row.gone, rooms, [0] * 3)
            own_lists(self, row.told, rooms)
            own_lists(self, row.moved, rooms, 0)
            own_lists(self, row.row_of, 0)
            for n in range(len(rooms)):
                own_lists(self, row.move, n, rooms[:n], 0)

    def test_a_word_that_is_changed_behind_the_call(self):
        row = Row(UP_AND_SWAP)
        word = [1, 0]
        told = row.gone((0, 0, 0), word)
        word.clear()
        self.assertEqual(row.gone((0, 0, 0), [1, 0]), told)

    def test_what_was_spoilt_of_the_levels_does_not_count(self):
        row = Row(UP_AND_SWAP)
        for level in levels(UP_AND_SWAP):
            for part in level:
                part.clear()
        self.assertEqual(row.parts(), [("turn", 0, 2), ("bring", 0, 2), ("bring", 1, 2)])
        self.assertEqual(Row(UP_AND_SWAP).parts(), row.parts())

    def test_two_rows_beside_each_other(self):
        kept = {machine: Row(machine) for machine in (UP_AND_SWAP, RING, TURNS_400, TURNS_3125, ((0,),))}
        for one, other in itertools.permutations(kept, 2):
            word = [0] * 7
            told = kept[one].gone(kept[one].row_of(0), word)
            kept[other].gone(kept[other].row_of(0), word)
            kept[other].parts().clear()
            self.assertEqual(kept[one].gone(kept[one].row_of(0), word), told)
            self.assertEqual(Row(one).gone(Row(one).row_of(0), word), told)
            self.assertEqual(kept[one].parts(), SlowRow(one).parts())


if __name__ == "__main__":
    unittest.main()
