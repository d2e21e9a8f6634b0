import itertools
import unittest

from cascade.errors import TooMany
from cascade.least import least, parting
from cascade.rows import Row
from cascade.together import together
from samples import (
    EXCHANGES, FLAT, KNOWN, RING, UP_AND_SWAP, drawn, figures, in_order_of_words, machines, own_lists, slow_led,
    slow_words, words,
)

FAR = 10 ** 60 - 1


def chain(count):
    """Letter 0 leads on to the last room, letter 1 stays."""
    return (tuple(min(room + 1, count - 1) for room in range(count)), tuple(range(count)))


def ring(count):
    return (tuple((room + 1) % count for room in range(count)),)


def two_rings(one, other):
    """One letter; its rounds through both rings come together only behind one times other steps."""
    far = tuple(one + (room + 1) % other for room in range(other))
    return (ring(one)[0] + far,)


def large(count):
    """So many large machines, with a seen of few numbers, so that some rooms are not parted."""
    made = []
    draw = figures(count)
    for number in range(count):
        rooms = 1 + next(draw) % 12
        letters = 1 + next(draw) % 4
        turns = drawn(rooms, letters, 1 + number % 5)[-1]
        made.append((turns, tuple(next(draw) % (1 + number % 3) for room in range(rooms))))
    return made


def steps_to_part(turns, seen):
    """For each pair of rooms that some word parts, how many letters it takes."""
    rooms = range(len(seen))
    found = {(one, other): 0 for one in rooms for other in rooms if seen[one] != seen[other]}
    steps = 0
    while True:
        steps += 1
        more = [(one, other) for one in rooms for other in rooms if (one, other) not in found
                and any((turn[one], turn[other]) in found for turn in turns)]
        if not more:
            return found
        found.update((pair, steps) for pair in more)


def slow_parting(turns, steps, one, other):
    """Of the letters that leave fewer steps the least one, again and again."""
    if (one, other) not in steps:
        return None
    word = []
    while steps[one, other] > 0:
        ends = [(turn[one], turn[other]) for turn in turns]
        letter = min(k for k, end in enumerate(ends) if steps.get(end) == steps[one, other] - 1)
        word.append(letter)
        one, other = ends[letter]
    return word


class Parting(unittest.TestCase):
    def test_no_word_parts_a_room_from_itself(self):
        for turns, seen in large(20):
            for room in range(len(seen)):
                self.assertIsNone(parting(turns, seen, room, room))

    def test_none_where_all_is_seen_alike(self):
        for machine in KNOWN:
            for one, other in itertools.product(range(len(machine[0])), repeat=2):
                self.assertIsNone(parting(machine, (7,) * len(machine[0]), one, other))

    def test_rooms_that_no_word_parts(self):
        self.assertIsNone(parting(ring(6), (0, 1, 0, 1, 0, 1), 0, 2))
        self.assertIsNone(parting(two_rings(31, 29), (0,) * 60, 0, 31))
        self.assertIsNone(parting(((0, 0, 1), (1, 1, 1)), (0, 0, 5), 0, 1))

    def test_the_word_of_no_letters(self):
        self.assertEqual(parting(RING, (0, 1, 2, 3, 4), 0, 1), [])
        self.assertEqual(parting(FLAT, (0, 0, 0, 0, -1), 4, 0), [])

    def test_one_letter(self):
        self.assertEqual(parting(((1, 2, 2),), (0, 0, 1), 0, 1), [0])
        self.assertEqual(parting(((0, 0, 0), (0, 2, 2), (2, 0, 0)), (0, 0, 1), 0, 1), [1])

    def test_several_letters(self):
        self.assertEqual(parting(chain(60), (0,) * 59 + (1,), 0, 1), [0] * 58)
        self.assertEqual(parting(chain(60), (0,) * 59 + (1,), 57, 30), [0, 0])
        self.assertEqual(parting(two_rings(31, 29), (0,) * 30 + (1,) + (0,) * 28 + (1,), 0, 31), [0] * 28)

    def test_of_several_words_the_least(self):
        # Both letters lead on, so of the words that part 0 from 1 the one with the lesser letters is told.
        turns = ((1, 2, 2), (1, 2, 2))
        self.assertEqual(parting(turns, (0, 0, 1), 0, 1), [0])
        # Letter 1 parts at once, letter 0 behind one more.
        self.assertEqual(parting(((2, 3, 2, 4, 4), (4, 0, 0, 0, 0)), (0, 0, 0, 0, 1), 0, 1), [1])
        self.assertEqual(parting(((2, 3, 2, 4, 4), (0, 1, 0, 0, 0)), (0, 0, 0, 0, 1), 0, 1), [0, 0])

    def test_numbers_of_sixty_figures(self):
        for one, other in itertools.permutations((FAR, FAR - 1, -FAR, 1 - FAR, 0), 2):
            self.assertEqual(parting(((0, 1),), (one, other), 0, 1), [])
            self.assertEqual(parting(((1, 2, 2),), (one, one, other), 0, 1), [0])
            self.assertIsNone(parting(((0, 1),), (one, int(str(one))), 0, 1))

    def test_all_words_of_few_letters(self):
        for turns, seen in large(100):
            if len(turns) < 4:
                for one, other in itertools.product(range(min(len(seen), 4)), repeat=2):
                    told = parting(turns, seen, one, other)
                    parts = [word for word in words(len(turns), 4)
                             if seen[slow_led(turns, one, word)] != seen[slow_led(turns, other, word)]]
                    if parts:
                        self.assertEqual(told, parts[0])
                    else:
                        self.assertTrue(told is None or len(told) > 4)

    def test_each_two_rooms(self):
        for turns, seen in large(200):
            steps = steps_to_part(turns, seen)
            for one, other in itertools.product(range(len(seen)), repeat=2):
                told = parting(turns, seen, one, other)
                self.assertIn(type(told), (list, type(None)))
                self.assertEqual(told, slow_parting(turns, steps, one, other))

    def test_sixty_rooms(self):
        for letters in range(1, 5):
            for turns in drawn(60, letters, 3):
                seen = tuple(1 if room % 17 == 3 else 0 for room in range(60))
                steps = steps_to_part(turns, seen)
                for one, other in itertools.product(range(0, 60, 7), range(0, 60, 11)):
                    self.assertEqual(parting(turns, seen, one, other), slow_parting(turns, steps, one, other))


class Least(unittest.TestCase):
    def is_made_least(self, turns, seen, start):
        told = least(turns, seen, start)
        self.assertEqual([type(part) for part in (told,) + told], [tuple] * 3)
        ends, marks = told
        self.assertEqual([len(turn) for turn in ends], [len(marks)] * len(turns))
        self.goes_beside(turns, seen, start, ends, marks)
        count = len(marks)
        self.assertEqual(len(steps_to_part(ends, marks)), count * (count - 1))
        self.assertEqual(
            in_order_of_words(slow_words(0, len(ends), lambda room, letter: ends[letter][room])), list(range(count)))

    def goes_beside(self, turns, seen, start, ends, marks):
        """Whatever word leads on in both, the same is seen; and each room that is told is come to."""
        pairs = slow_words((start, 0), len(turns), lambda pair, k: (turns[k][pair[0]], ends[k][pair[1]]))
        for room, number in pairs:
            self.assertEqual(seen[room], marks[number])
        self.assertEqual({number for room, number in pairs}, set(range(len(marks))))

    def test_known_ones(self):
        self.assertEqual(least(((0,),), (5,), 0), (((0,),), (5,)))
        self.assertEqual(least(UP_AND_SWAP, (0, 1, 2), 0), (UP_AND_SWAP, (0, 1, 2)))
        self.assertEqual(least(UP_AND_SWAP, (0, 0, 1), 0), (((1, 2, 2), (1, 0, 2)), (0, 0, 1)))
        self.assertEqual(least(ring(6), (0, 1, 0, 1, 0, 1), 3), (((1, 0),), (1, 0)))

    def test_rooms_to_which_no_word_leads_are_left_out(self):
        self.assertEqual(least(UP_AND_SWAP, (0, 1, 2), 2), (((0,), (0,)), (2,)))
        self.assertEqual(least(chain(5), (4, 3, 2, 1, 0), 3), (((1, 1), (0, 1)), (1, 0)))
        # Room 0 is seen as no other is, but no word leads to it from 1, so it parts nothing.
        self.assertEqual(least(((1, 2, 1),), (1, 0, 0), 1), (((0,),), (0,)))

    def test_numbered_in_the_order_of_the_least_words(self):
        self.assertEqual(least(((2, 0, 1),), (5, 6, 7), 0), (((1, 2, 0),), (5, 7, 6)))
        self.assertEqual(least(((2, 1, 2, 3), (1, 3, 3, 3)), (0, 1, 2, 3), 0), (((1, 1, 2, 3), (2, 3, 3, 3)), (0, 2, 1, 3)))
        self.assertEqual(least(((2, 1, 2, 3), (1, 3, 3, 3)), (0, 3, 2, 3), 0), (((1, 1, 2), (2, 2, 2)), (0, 2, 3)))

    def test_the_start_is_room_0(self):
        for turns, seen in large(120):
            for start in range(len(seen)):
                self.assertEqual(least(turns, seen, start)[1][0], seen[start])

    def test_all_seen_alike_comes_to_one_room(self):
        for machine in KNOWN:
            for start in range(len(machine[0])):
                self.assertEqual(least(machine, (-3,) * len(machine[0]), start), (((0,),) * len(machine), (-3,)))

    def test_all_seen_unlike_keeps_each_room_that_is_come_to(self):
        for machine in machines(4):
            rooms = len(machine[0])
            for start in range(rooms):
                ends, marks = least(machine, tuple(range(rooms)), start)
                found = slow_words(start, len(machine), lambda room, letter: machine[letter][room])
                self.assertEqual(list(marks), in_order_of_words(found))
                self.assertEqual([[marks[end] for end in turn] for turn in ends],
                                 [[turn[room] for room in marks] for turn in machine])

    def test_several_rounds(self):
        self.assertEqual(least(chain(30), (0,) * 29 + (1,), 0), (chain(30), (0,) * 29 + (1,)))
        self.assertEqual(least(chain(30), (0,) * 30, 0), (((0,), (0,)), (0,)))

    def test_numbers_of_sixty_figures(self):
        self.assertEqual(least(((1, 2, 0),), (FAR, -FAR, FAR - 1), 0), (((1, 2, 0),), (FAR, -FAR, FAR - 1)))
        self.assertEqual(least(((1, 2, 3, 0),), (FAR, -FAR, FAR, -FAR), 1), (((1, 0),), (-FAR, FAR)))
        self.assertEqual(least(((1, 0),), (-FAR, 1 - FAR), 0), (((1, 0),), (-FAR, 1 - FAR)))

    def test_as_told(self):
        for turns, seen in large(200):
            for start in range(len(seen)):
                self.is_made_least(turns, seen, start)

    def test_rooms_are_one_just_where_no_word_parts_them(self):
        for turns, seen in large(120):
            found = in_order_of_words(slow_words(0, len(turns), lambda room, letter: turns[letter][room]))
            firsts = [room for place, room in enumerate(found)
                      if all(parting(turns, seen, room, other) is not None for other in found[:place])]
            self.assertEqual(least(turns, seen, 0)[1], tuple(seen[room] for room in firsts))

    def test_made_least_twice_comes_to_the_same(self):
        for turns, seen in large(120):
            told = least(turns, seen, 0)
            self.assertEqual(least(told[0], told[1], 0), told)

    def test_400_rooms(self):
        self.assertEqual(least(ring(400), tuple(room % 2 for room in range(400)), 7), (((1, 0),), (1, 0)))
        self.assertEqual(least(ring(400), (0,) * 399 + (1,), 0), (ring(400), (0,) * 399 + (1,)))
        self.assertEqual(least(chain(400), (0,) * 399 + (1,), 0), (chain(400), (0,) * 399 + (1,)))
        self.assertEqual(least(chain(400), (0,) * 399 + (1,), 398), (chain(2), (0, 1)))
        self.assertEqual(least(chain(400), (0,) * 400, 0), (((0,), (0,)), (0,)))

    def test_400_rooms_folded(self):
        # Twenty times twenty rooms; the letters lead on in the one and the other row, and only the first is seen.
        turns = (tuple((room + 20) % 400 for room in range(400)),
                 tuple(room - room % 20 + (room + 1) % 20 for room in range(400)))
        seen = tuple(FAR if room // 20 == 0 else -FAR for room in range(400))
        self.assertEqual(least(turns, seen, 0), ((ring(20)[0], tuple(range(20))), (FAR,) + (-FAR,) * 19))


class TheSameAgain(unittest.TestCase):
    def seens(self, machine):
        rooms = len(machine[0])
        return [tuple(range(rooms)), (4,) * rooms, tuple(room % 2 for room in range(rooms)),
                tuple(FAR if room == rooms - 1 else -FAR for room in range(rooms)), (1,) + (0,) * (rooms - 1)]

    def test_put_together_and_made_least(self):
        met = set()
        for machine in machines(6):
            row = Row(machine)
            for room in range(len(machine[0])):
                try:
                    rows, turns = together(machine, room, 400)
                except TooMany:
                    continue
                for seen in self.seens(machine):
                    marks = tuple(seen[row.told(rooms)] for rooms in rows)
                    self.assertEqual(least(turns, marks, 0), least(machine, seen, room))
                met.add((len(machine[0]), len(machine)))
        self.assertEqual(met, set(itertools.product(range(1, 6), range(1, 5))))


class OwnLists(unittest.TestCase):
    def test_what_is_told_is_the_askers_own(self):
        for turns, seen in large(20):
            own_lists(self, least, turns, seen, 0)
            for room in range(len(seen)):
                own_lists(self, parting, turns, seen, 0, room)
        own_lists(self, least, EXCHANGES, (0, 0, 1, 1, 1), 2)
        own_lists(self, parting, chain(9), (0,) * 8 + (1,), 0, 1)


if __name__ == "__main__":
    unittest.main()
