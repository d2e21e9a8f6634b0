import itertools
import unittest

from cascade.errors import HallError, NoMachine, NoName, NoRow, NoText, TooMany
from cascade.texts import read, shown
from samples import KNOWN, UP_AND_SWAP, machines, own_lists

WRITTEN = (
    ("a: 0", ("a",), ((0,),)),
    ("up: 1 2 2", ("up",), ((1, 2, 2),)),
    ("up: 1 2 2\nswap: 1 0 2", ("up", "swap"), UP_AND_SWAP),
    ("z: 0\ny: 0\nx: 0\nw: 0", ("z", "y", "x", "w"), ((0,), (0,), (0,), (0,))),
    ("abcdefgh: 4 3 2 1 0\nzzzzzzzz: 0 0 0 0 0", ("abcdefgh", "zzzzzzzz"), ((4, 3, 2, 1, 0), (0, 0, 0, 0, 0))),
    ("go: 1 0\nat: 0 0\nrow: 1 1\nnone: 0 1", ("go", "at", "row", "none"), ((1, 0), (0, 0), (1, 1), (0, 1))),
)

NO_TEXTS = (
    "", "\n", " ", ":", "up", "up:", "up: ", ": 0", " : 0", "0: 0", "up 0", "up:0", "up:  0", "up : 0", " up: 0",
    "up: 0 ", "up: 0\n", "\nup: 0", "up: 0\n\ndown: 0", "up: 0\n\n", "up: 0  1", "up: 0 1 ", "up: 01", "up: 0 10",
    "up: 10", "up: 00", "up: 0,1", "up: a", "up: -1", "up: +1", "up: 0 x", "up: 0.", "up:: 0", "up: : 0", "up: 0:",
    "up: 0: 0", "up;0", "up; 0", "Up: 0", "uP: 0", "UP: 0", "up1: 0", "u p: 0", "u-p: 0", "u_p: 0", "up!: 0",
    "abcdefghi: 0", "abcdefghijklmnop: 0", "up: 0 down: 0", "up: 0, down: 0", "up: 0;down: 0", "up: 1 0\ndown",
    "up: 1 0\ndown:", "up: 1 0\n: 0 1", "up: 1 0\nDown: 0 1", "up: 1 0\ndown: 0 1\n", "up: 1 0\n down: 0 1",
    "up: 1 0\ndown: 0 1 ", "up: 1 0 \ndown: 0 1", "up: 0\r\ndown: 0", "up: 0\r", "up:\n0", "up: 0\n 0", "{: 0", "`: 0",
    "up: /", "up: :", "~: 0", "up~ 0",
)

NO_MACHINES = (
    "up: 1", "up: 9", "up: 0 2", "up: 0 1 3", "up: 5 0 0 0 0", "up: 0 0 0 0 0 0", "up: 0 1 2 3 4 5",
    "up: 0\ndown: 0 0", "up: 0 0\ndown: 0", "up: 1 0\ndown: 1 0 0", "up: 0\nup: 0", "up: 1 0\ndown: 0 1\nup: 1 0",
    "up: 1 0\nup: 0 1", "a: 0\nb: 0\nc: 0\nd: 0\ne: 0", "a: 0\nb: 0\nc: 0\nd: 0\na: 0", "up: 1 0\ndown: 2 0",
    "up: 0 0 0 0 0 0\ndown: 0 0 0 0 0 0", "up: 0 0 0 0 0 0 0 0 0 0", "abcdefgh: 9 9", "up: 9\nup: 9",
)

BOTH_DUE = (
    "up: 1 0\nup: 1 0\n", "up: 9 ", "up: 9\n\n", "up: 0 0 0 0 0 0 ", "up: 0 0 0 0 0 0\nDown: 0", "up: 0\nup: 0\nup 0",
    "a: 0\nb: 0\nc: 0\nd: 0\ne: 0\nF: 0", "a: 0\na: 0\nabcdefghi: 0", "up: 0 0\ndown: 0\nleft:", "up: 9 9 9 9 9 9\n:",
)

NOT_TEXTS = (
    None, True, False, 0, 1, -7, 10 ** 60, 1.5, b"", b"up: 0", [], ["up: 0"], ("up: 0",), {}, {"up": (0,)}, set(),
    object(), str, len, iter("up: 0"), (("up",), ((0,),)), bytearray(b"up: 0"), ValueError("up: 0"), range(2),
)


def slow_read(text):
    """Row by row and sign by sign, as point 36 tells; NoText or NoMachine where one is due."""
    rows = []
    for row in text.split("\n"):
        name = ""
        while row and row[0] in "abcdefghijklmnopqrstuvwxyz":
            name, row = name + row[0], row[1:]
        figures = []
        if not 1 <= len(name) <= 8 or row[:1] != ":":
            return NoText
        row = row[1:]
        while len(row) >= 2 and row[0] == " " and row[1] in "0123456789":
            figures, row = figures + ["0123456789".index(row[1])], row[2:]
        if row or not figures:
            return NoText
        rows.append((name, tuple(figures)))
    names = tuple(name for name, turn in rows)
    turns = tuple(turn for name, turn in rows)
    count = len(turns[0])
    alike = all(len(turn) == count and max(turn) < count for turn in turns)
    if len(set(names)) < len(names) or len(turns) > 4 or count > 5 or not alike:
        return NoMachine
    return names, turns


class Refusals(unittest.TestCase):
    def refused(self, error, text):
        with self.assertRaises(error) as taken:
            read(text)
        others = tuple({NoText, NoMachine, NoRow, NoName, TooMany} - {error})
        self.assertIsInstance(taken.exception, HallError)
        self.assertNotIsInstance(taken.exception, others)

    def as_told(self, text):
        told = slow_read(text)
        if isinstance(told, tuple):
            self.assertEqual(read(text), told)
        else:
            self.refused(told, text)


class Refused(Refusals):
    def test_what_is_none(self):
        for text in NO_TEXTS:
            self.refused(NoText, text)

    def test_what_is_no_text_at_all(self):
        for thing in NOT_TEXTS:
            self.refused(NoText, thing)

    def test_what_writes_no_machine(self):
        for text in NO_MACHINES:
            self.refused(NoMachine, text)

    def test_where_both_are_due(self):
        for text in BOTH_DUE:
            self.refused(NoText, text)

    def test_any_other_sign_at_any_place(self):
        text = "ab: 1 0\nc: 0 0"
        signs = [chr(number) for number in range(32, 127)] + ["\n"]
        for place, sign in itertools.product(range(len(text)), signs):
            other = text[:place] + sign + text[place + 1:]
            self.as_told(other)

    def test_a_sign_more_or_fewer_at_any_place(self):
        text = "ab: 1 0\nc: 0 0"
        for place in range(len(text)):
            self.as_told(text[:place] + text[place + 1:])
        for place, sign in itertools.product(range(len(text) + 1), " 01:aA\n"):
            self.as_told(text[:place] + sign + text[place:])

    def test_texts_of_2000_signs(self):
        self.refused(NoText, "a" * 2000)
        self.refused(NoText, "\n" * 2000)
        self.refused(NoText, "up:" + " " * 1997)
        self.refused(NoMachine, "upp:" + " 0" * 998)
        self.refused(NoMachine, "\n".join(["a: 0"] * 400))
        self.refused(NoText, "\n".join(["a: 0"] * 399) + "\na:")


class Read(Refusals):
    def test_known_ones(self):
        for text, names, machine in WRITTEN:
            told = read(text)
            self.assertEqual(told, (names, machine))
            self.assertEqual([type(part) for part in (told,) + told + told[1]], [tuple] * (3 + len(machine)))
            self.assertEqual({type(room) for turn in told[1] for room in turn}, {int})
            self.assertEqual({type(name) for name in told[0]}, {str})

    def test_every_sign_and_length_of_names(self):
        letters = "abcdefghijklmnopqrstuvwxyz"
        for sign in letters:
            self.assertEqual(read(sign + ": 0"), ((sign,), ((0,),)))
        for length in range(1, 9):
            self.assertEqual(read(letters[-length:] + ": 0"), ((letters[-length:],), ((0,),)))

    def test_every_turn_of_three_rooms(self):
        for turn in itertools.product(range(3), repeat=3):
            self.assertEqual(read("t: " + " ".join(str(room) for room in turn)), (("t",), (turn,)))

    def test_every_count_of_rows_and_figures(self):
        for letters, rooms in itertools.product(range(1, 7), range(1, 8)):
            text = "\n".join("abcdef"[letter] + ":" + " 0" * rooms for letter in range(letters))
            self.assertEqual(slow_read(text) == NoMachine, letters > 4 or rooms > 5)
            self.as_told(text)


class Shown(unittest.TestCase):
    def test_known_ones(self):
        for text, names, machine in WRITTEN:
            self.assertEqual(shown(names, machine), text)

    def test_both_ways(self):
        for machine in machines(20):
            names = ("up", "abcdefgh", "x", "down")[:len(machine)]
            text = shown(names, machine)
            self.assertIs(type(text), str)
            self.assertEqual(read(text), (names, machine))
            self.assertEqual(shown(names, machine), text)


class OwnLists(unittest.TestCase):
    def test_what_is_told_is_the_askers_own(self):
        for text, names, machine in WRITTEN:
            own_lists(self, read, text)
            own_lists(self, shown, names, machine)
        for machine in KNOWN:
            own_lists(self, shown, ("a", "b", "c", "d")[:len(machine)], machine)


if __name__ == "__main__":
    unittest.main()
