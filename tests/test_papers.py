import unittest

from cascade.errors import HallError, TooMany
from cascade.levels import levels
from cascade.monoid import all_turns
from cascade.papers import own_turns
from cascade.tilings import level_group
from samples import (
    EXCHANGES, FLAT, RING, TURNS_399, TURNS_400, TURNS_401, TURNS_3125, UP_AND_DOWN, UP_AND_SWAP, machines, own_lists,
    slow_behind, slow_carried,
)

# Here the still one of some level leads to more rooms than the face has, and some turn leads out of these.
WIDER = (
    ((0, 3, 0, 1), (2, 1, 2, 3), (3, 1, 2, 1)), ((1, 0, 2, 3, 3), (1, 1, 2, 3, 0), (2, 1, 3, 3, 3)),
    ((4, 2, 0, 1, 4), (2, 3, 0, 3, 4)), ((0, 3, 2, 1, 2), (0, 3, 3, 3, 4), (1, 1, 4, 3, 4)),
)


def small_ones(count):
    """Machines with their turns and levels, but for those whose many turns would take long here."""
    for machine in machines(count) + list(WIDER):
        turns = [turn for turn, word in all_turns(machine, 3125)]
        if len(turns) <= 700:
            for level in levels(machine):
                yield machine, level, turns


def keepers_of(turns, face):
    return [turn for turn in turns if slow_carried((turn,), face, [0]) == face]


def still_one(turns, face):
    doubles = [turn for turn in keepers_of(turns, face) if slow_behind(turn, turn) == turn]
    fewest = min(len(set(turn)) for turn in doubles)
    return [turn for turn in doubles if len(set(turn)) == fewest][0]


def slow_own_turns(turns, face):
    e = still_one(turns, face)
    found = {slow_behind(slow_behind(e, turn), e) for turn in keepers_of(turns, face)}
    return [number for number, turn in enumerate(turns) if turn in found]


def turn_of_tiles(turn, level):
    return tuple(level[1].index(slow_carried((turn,), part, [0])) for part in level[1])


class OwnTurns(unittest.TestCase):
    def test_known_ones(self):
        top, low = levels(UP_AND_SWAP)
        self.assertEqual(own_turns(UP_AND_SWAP, top), [0, 2])
        # Turn 4 is (0, 2, 2): it leads to fewer rooms than the still turn, which carries (0, 2) to itself too.
        self.assertEqual(own_turns(UP_AND_SWAP, low), [4])
        self.assertEqual(own_turns(RING, levels(RING)[0]), [0, 1, 2, 3, 4])
        self.assertEqual(own_turns(EXCHANGES, levels(EXCHANGES)[0]), list(range(120)))
        self.assertEqual(own_turns(FLAT, levels(FLAT)[0]), [0])

    # The still one is letter 1, (2, 1, 2, 3); letter 0, behind it, leads from its rooms out to room 0.
    def test_a_still_one_of_more_rooms_than_the_face(self):
        (level,) = [level for level in levels(WIDER[0]) if level[0][0] == (1, 3)]
        self.assertEqual(own_turns(WIDER[0], level), [2, 5])

    def test_as_told(self):
        for machine, level, turns in small_ones(20):
            told = own_turns(machine, level, 700)
            self.assertIs(type(told), list)
            self.assertEqual({type(number) for number in told}, {int})
            self.assertEqual(told, slow_own_turns(turns, level[0][0]))

    # Some machines have several that lead to the fewest rooms, in some the still turn is not among these.
    def test_the_first_of_those_that_lead_to_the_fewest_rooms(self):
        met = set()
        for machine, level, turns in small_ones(20):
            face = level[0][0]
            doubles = [turn for turn in keepers_of(turns, face) if slow_behind(turn, turn) == turn]
            fewest = [turn for turn in doubles if len(set(turn)) == min(len(set(turn)) for turn in doubles)]
            told = [turns[number] for number in own_turns(machine, level, 700)]
            self.assertIn(fewest[0], told)
            for other in fewest[1:]:
                self.assertNotIn(other, told)
            met.add((len(fewest) > 1, fewest[0] != turns[0]))
        self.assertLessEqual({(True, True), (False, True), (False, False)}, met)

    def test_it_is_a_group_and_its_still_one_stays_the_face(self):
        for machine, level, turns in small_ones(4):
            told = [turns[number] for number in own_turns(machine, level, 700)]
            (e,) = [turn for turn in told if slow_behind(turn, turn) == turn]
            for room in level[0][0]:
                self.assertEqual(e[room], room)
            for one in told:
                self.assertEqual(slow_behind(e, one), one)
                self.assertEqual(slow_behind(one, e), one)
                self.assertEqual({slow_behind(one, other) for other in told}, set(told))

    def test_the_turns_of_the_tiles_come_of_it(self):
        for machine, level, turns in small_ones(10):
            told = [turns[number] for number in own_turns(machine, level, 700)]
            self.assertEqual(sorted({turn_of_tiles(turn, level) for turn in told}), level_group(machine, level))

    def test_what_stands_behind_one_another_comes_to_what_stands_so(self):
        for machine, level, turns in small_ones(4):
            told = [turns[number] for number in own_turns(machine, level, 700)]
            for one in told:
                for other in told[:10]:
                    ends = slow_behind(turn_of_tiles(one, level), turn_of_tiles(other, level))
                    self.assertEqual(turn_of_tiles(slow_behind(one, other), level), ends)

    def test_most(self):
        for machine, level, turns in small_ones(2):
            count = len(turns)
            told = own_turns(machine, level, count)
            self.assertEqual(own_turns(machine, level, count + 1), told)
            if count > 1:
                with self.assertRaises(TooMany) as taken:
                    own_turns(machine, level, count - 1)
                self.assertEqual(taken.exception.most, count - 1)
                self.assertIsInstance(taken.exception, HallError)

    def test_most_left_out_is_400(self):
        for machine in (UP_AND_SWAP, UP_AND_DOWN, TURNS_399, TURNS_400):
            for level in levels(machine):
                self.assertEqual(own_turns(machine, level), own_turns(machine, level, 400))
        for machine in (TURNS_401, TURNS_3125):
            for level in levels(machine):
                with self.assertRaises(TooMany) as taken:
                    own_turns(machine, level)
                self.assertEqual(taken.exception.most, 400)


class OwnLists(unittest.TestCase):
    def test_what_is_told_is_the_askers_own(self):
        for machine, level, turns in small_ones(2):
            own_lists(self, own_turns, machine, level, 700)


if __name__ == "__main__":
    unittest.main()
