"""The whole, point 3: from the text of a machine to the answers, for machines of each count of rooms and letters."""

import itertools
import unittest

from cascade.about import about, all_rests
from cascade.errors import TooMany
from cascade.hall import Hall
from cascade.least import least
from cascade.levels import levels
from cascade.monoid import all_turns
from cascade.papers import own_turns
from cascade.rows import Row
from cascade.tilings import level_group
from cascade.texts import read, shown
from cascade.together import together
from samples import KNOWN, UP_AND_SWAP, figures, machines, slow_behind, slow_carried, slow_led, some_rows, words

NAMES = ("up", "swap", "on", "abcdefgh")


def written(count):
    """Machines as they are read from their texts, with these."""
    for machine in machines(count):
        text = shown(NAMES[:len(machine)], machine)
        yield text, read(text)[1]


def counts_of(row):
    return [many for word, level, many in row.parts()]


def turned_sets(turns, rooms):
    """The sets that one of these turns carries to themselves, but not room by room."""
    sets = [found for size in range(1, rooms + 1) for found in itertools.combinations(range(rooms), size)]
    return [found for found in sets for turn in turns
            if tuple(sorted({turn[room] for room in found})) == found and any(turn[room] != room for room in found)]


class Whole(unittest.TestCase):
    def test_machines_of_each_count_are_asked(self):
        counts = {(len(machine[0]), len(machine)) for text, machine in written(1)}
        self.assertEqual(counts, set(itertools.product(range(1, 6), range(1, 5))))

    def test_the_hall_does_what_the_machine_does(self):
        for text, machine in written(3):
            hall = Hall(text)
            for room in range(len(machine[0])):
                for word in list(words(len(machine), 2))[1:]:
                    self.assertEqual(hall.say(f"at {room}"), "ok")
                    answer = hall.say("go " + " ".join(NAMES[letter] for letter in word))
                    self.assertEqual(answer, str(slow_led(machine, room, word)))

    def test_the_row_does_what_the_machine_does(self):
        for text, machine in written(4):
            row = Row(machine)
            told = {row.told(row.row_of(room)) for room in range(len(machine[0]))}
            self.assertEqual(told, set(range(len(machine[0]))))
            for rooms in some_rows(counts_of(row), 100):
                for word in words(len(machine), 2):
                    self.assertEqual(row.told(row.gone(rooms, word)), slow_led(machine, row.told(rooms), word))

    def test_each_move_is_of_its_kind(self):
        for text, machine in written(4):
            row = Row(machine)
            groups = [level_group(machine, level) for level in levels(machine)]
            for n, (word, number, many) in enumerate(row.parts()):
                for ahead, letter in itertools.product(some_rows(counts_of(row)[:n], 5), range(len(machine))):
                    told = row.move(n, ahead, letter)
                    if word == "bring":
                        self.assertTrue(told == tuple(range(many)) or told == (told[0],) * many)
                    else:
                        ends = [slow_behind(turn, groups[number][told[0]]) for turn in groups[number]]
                        self.assertEqual([groups[number][room] for room in told], ends)

    def test_no_more_turns_than_the_machines_own(self):
        for text, machine in written(4):
            turns = [turn for turn, word in all_turns(machine, 3125)]
            if len(turns) <= 400:
                for level in levels(machine):
                    own = [turns[number] for number in own_turns(machine, level)]
                    ends = {one: tuple(level[1].index(slow_carried((one,), part, [0])) for part in level[1])
                            for one in own}
                    self.assertEqual(sorted(set(ends.values())), level_group(machine, level))
                    for one, other in itertools.product(own[:12], own):
                        self.assertEqual(ends[slow_behind(one, other)], slow_behind(ends[one], ends[other]))

    def test_a_turning_part_is_there_where_some_word_turns_a_set_about(self):
        met = set()
        for text, machine in written(6):
            turns = [turn for turn, word in all_turns(machine, 3125)]
            turned = turned_sets(turns, len(machine[0]))
            hall = Hall(text)
            self.assertEqual("turn/" in hall.say("parts"), turned != [])
            self.assertEqual(hall.say("about") == "none", turned == [])
            self.assertEqual(about(machine) is None, turned == [])
            if not turned:
                self.assertEqual({rest[1] for rest in all_rests(machine, 3125)}, {1})
            else:
                self.word_turns_about(machine, hall.say("about"), turned)
            met.add(turned == [])
        self.assertEqual(met, {True, False})

    def word_turns_about(self, machine, answer, turned):
        names, sign, rooms = answer.partition(":")
        word = [NAMES.index(name) for name in names.split(" ")]
        found = tuple(int(room) for room in rooms.split())
        self.assertIn(found, turned)
        self.assertEqual(slow_carried(machine, found, word), found)
        self.assertTrue(any(slow_led(machine, room, word) != room for room in found))

    def test_put_together_and_made_least_it_is_the_machine_again(self):
        met = set()
        for number, (text, machine) in enumerate(written(3)):
            row = Row(machine)
            rooms = range(len(machine[0]))
            draw = figures(number)
            for start in rooms:
                try:
                    rows, turns = together(machine, start)
                except TooMany:
                    continue
                for seen in (tuple(rooms), tuple(next(draw) % 2 for room in rooms), (0,) * len(rooms)):
                    marks = tuple(seen[row.told(found)] for found in rows)
                    self.assertEqual(least(turns, marks, 0), least(machine, seen, start))
                met.add((len(rooms), len(machine)))
        self.assertEqual(met, set(itertools.product(range(1, 6), range(1, 5))))


class NothingIsKept(unittest.TestCase):
    """What was asked before does not count: each answer is the same as from a fresh start, whatever goes ahead."""

    def answers(self, machine):
        row = Row(machine)
        told = [row.parts(), [row.row_of(room) for room in range(len(machine[0]))], about(machine), levels(machine)]
        return told + [row.gone(row.row_of(0), [0] * 5)]

    def test_one_machine_behind_another(self):
        alone = {machine: self.answers(machine) for machine in KNOWN}
        for machine in reversed(KNOWN):
            self.assertEqual(self.answers(machine), alone[machine])
            self.assertEqual(self.answers(UP_AND_SWAP), alone[UP_AND_SWAP])


if __name__ == "__main__":
    unittest.main()
