import itertools
import unittest

from cascade.about import about
from cascade.errors import HallError, NoMachine, NoName, NoRow, NoText, TooMany
from cascade.hall import Hall
from cascade.rows import Row
from cascade.texts import shown
from samples import EXCHANGES, KNOWN, UP_AND_DOWN, UP_AND_SWAP, figures, machines, slow_led

TEXT = "up: 1 2 2\nswap: 1 0 2"
NAMES = ("up", "abcdefgh", "x", "down")

NO_ROWS = (
    "", " ", "  ", "\n", "go", "at", "row ", " row", "row row", "row 0", "row  ", "rows", "Row", "ROW", "ro", "row\n",
    "\nrow", "parts ", "parts 0", " parts", "part", "parts\n", "about ", "about up", "About", "about\n", "at 0 ",
    "at 0 1", "at  0", "at 0  ", "At 0", "AT 0", " at 0", "  at 0", "at0", "at\n0", "at:0", "Go up", "GO up", " go up",
    "gone up", "goup", "go\nup", "go:up", "up", "swap", "none", "ok", "0", "1", ":", "go,up", "stay 0", "go\n", "at\n",
    "at up swap", "at 9 9", "row up", "parts up", "about up swap", "about 0 1 2",
)

NO_NAMES = (
    "go ", "go  ", "go  up", "go up ", "go up  swap", "go down", "go Up", "go up swap left", "go down up", "go 0",
    "go up:", "go up,swap", "go swap\n", "go up\nswap", "go u", "go upp", "go go", "go row", "go up at 0", "go upswap",
    "go swap swap swap swap swap swap swa", "at ", "at up", "at 3", "at 4", "at 9", "at -1", "at +1", "at 00", "at 01",
    "at 10", "at 0.", "at 0\n", "at \n0", "at x", "at :", "at 1_", "at /", "at 000000000000000000000000000000", "at none",
)

NOT_TEXTS = (
    None, True, False, 0, 1, -7, 10 ** 60, 1.5, b"", b"row", [], ["row"], ("row",), ["go", "up"], {}, {"row": 1},
    set(), object(), str, len, iter("row"), bytearray(b"row"), ValueError("row"), range(2),
)


def hall_of(machine):
    return Hall(shown(NAMES[:len(machine)], machine))


def said(hall, rows):
    return [hall.say(row) for row in rows]


def joined(words):
    return " ".join(str(word) for word in words) if words else "none"


class Refusals(unittest.TestCase):
    def refused(self, error, ask, *handed):
        with self.assertRaises(error) as taken:
            ask(*handed)
        others = tuple({NoText, NoMachine, NoRow, NoName, TooMany} - {error})
        self.assertIsInstance(taken.exception, HallError)
        self.assertNotIsInstance(taken.exception, others)

    def unchanged(self, hall, error, rows):
        before = said(hall, ("row", "parts", "about"))
        for row in rows:
            self.refused(error, hall.say, row)
            self.assertEqual(said(hall, ("row", "parts", "about")), before)


class Made(Refusals):
    def test_of_a_text(self):
        for text in (TEXT, "a: 0", "abcdefgh: 4 3 2 1 0"):
            self.assertIsInstance(Hall(text), Hall)

    def test_refused_with_no_text(self):
        for text in ("", "up: 0\n", "up:  0", "Up: 0", ": 0", "abcdefghi: 0", "up 0", "up: 0 ") + NOT_TEXTS:
            self.refused(NoText, Hall, text)

    def test_refused_with_no_machine(self):
        for text in ("up: 1", "up: 0\nup: 0", "up: 0 0 0 0 0 0", "up: 0\ndown: 0 0", "a: 0\nb: 0\nc: 0\nd: 0\ne: 0"):
            self.refused(NoMachine, Hall, text)

    def test_where_both_are_due(self):
        for text in ("up: 1\n", "up: 0\nup: 0\nUp: 0", "up: 0 0 0 0 0 0 "):
            self.refused(NoText, Hall, text)

    def test_at_the_row_of_room_0(self):
        for machine in machines(4):
            self.assertEqual(hall_of(machine).say("row"), joined(Row(machine).row_of(0)))


class Say(Refusals):
    def test_a_whole_talk(self):
        hall = Hall(TEXT)
        talk = (("row", "0 0 0"), ("parts", "turn/2 bring/2 bring/2"), ("about", "swap: 0 1 2"), ("go up", "1"),
                ("row", "0 1 0"), ("go swap", "0"), ("row", "1 1 0"), ("go swap up up", "2"), ("at 1", "ok"),
                ("row", "0 1 0"), ("go up swap up", "2"), ("at 0", "ok"), ("row", "0 0 0"), ("at 2", "ok"),
                ("row", "0 0 1"), ("go up", "2"))
        for row, answer in talk:
            told = hall.say(row)
            self.assertIs(type(told), str)
            self.assertEqual(told, answer)

    def test_one_room(self):
        for text in ("a: 0", "a: 0\nb: 0\nc: 0\nd: 0"):
            hall = Hall(text)
            self.assertEqual(said(hall, ("row", "parts", "about", "go a", "at 0", "row")),
                             ["none", "none", "none", "0", "ok", "none"])
            self.refused(NoName, hall.say, "at 1")

    def test_nothing_turns_about(self):
        hall = hall_of(UP_AND_DOWN)
        self.assertEqual(said(hall, ("about", "parts", "row")), ["none", "bring/2 bring/2 bring/2 bring/2", "0 0 0 0"])

    def test_a_word_of_several_letters_turns_about(self):
        hall = Hall("on: 2 2 1\nback: 0 2 0")
        self.assertEqual(said(hall, ("about", "parts")), ["on on back: 0 2", "bring/2 turn/2 bring/2"])

    def test_rooms_of_several_figures(self):
        hall = hall_of(EXCHANGES)
        self.assertEqual(said(hall, ("parts", "go up", "row")), ["turn/120 bring/5", "1", "33 0"])
        self.assertEqual(said(hall, ("go up up up", "row", "at 3", "row")), ["4", "96 0", "ok", "0 3"])

    def test_go_by_words(self):
        for number, machine in enumerate(machines(3)):
            hall = hall_of(machine)
            row = Row(machine)
            draw = figures(number)
            here = row.row_of(0)
            room = 0
            for length in (1, 2, 3, 20):
                word = [next(draw) % len(machine) for place in range(length)]
                here = row.gone(here, word)
                room = slow_led(machine, room, word)
                self.assertEqual(hall.say("go " + " ".join(NAMES[letter] for letter in word)), str(room))
                self.assertEqual(hall.say("row"), joined(here))

    def test_a_row_of_2000_signs(self):
        hall = Hall("a: 1 2 3 4 0\nb: 0 1 2 3 4")
        self.assertEqual(hall.say("go" + " a" * 999), str(999 % 5))
        self.assertEqual(hall.say("go" + " b a" * 499), str((999 + 499) % 5))

    def test_at_each_room(self):
        for machine in machines(3):
            hall = hall_of(machine)
            row = Row(machine)
            for room in range(len(machine[0])):
                hall.say("go up")
                self.assertEqual(hall.say(f"at {room}"), "ok")
                self.assertEqual(hall.say("row"), joined(row.row_of(room)))
                for letter, turn in enumerate(machine):
                    hall.say(f"at {room}")
                    self.assertEqual(hall.say(f"go {NAMES[letter]}"), str(turn[room]))

    def test_parts_and_about(self):
        for machine in machines(6):
            hall = hall_of(machine)
            parts = [f"{word}/{many}" for word, level, many in Row(machine).parts()]
            told = about(machine)
            answer = "none"
            if told is not None:
                answer = " ".join(NAMES[letter] for letter in told[0]) + ":" + "".join(f" {room}" for room in told[1])
            for row in ("row", "go up", "at 0"):
                self.assertEqual(said(hall, ("parts", "about")), [joined(parts), answer])
                hall.say(row)

    def test_names_like_first_words(self):
        hall = Hall("go: 1 2 0\nat: 0 0 0\nrow: 2 2 2\nnone: 0 1 2")
        self.assertEqual(said(hall, ("go go", "go go at", "go row", "go none go")), ["1", "0", "2", "0"])
        self.refused(NoName, hall.say, "go parts")
        self.refused(NoName, hall.say, "at row")
        self.refused(NoRow, hall.say, "none")
        self.refused(NoRow, hall.say, "go")


class Refused(Refusals):
    def test_what_is_no_row(self):
        hall = Hall(TEXT)
        hall.say("go swap up")
        self.unchanged(hall, NoRow, NO_ROWS)

    def test_what_is_no_text(self):
        hall = Hall(TEXT)
        hall.say("go swap")
        self.unchanged(hall, NoRow, NOT_TEXTS)

    def test_what_has_no_name(self):
        hall = Hall(TEXT)
        hall.say("go swap up")
        self.unchanged(hall, NoName, NO_NAMES)

    # One name behind several that are names: nothing is moved by these.
    def test_nothing_is_moved_by_the_names_ahead_of_a_wrong_one(self):
        for machine in machines(2):
            hall = hall_of(machine)
            self.unchanged(hall, NoName, ["go up nobody", "go up up ", "go up  up", "go nobody up"])
            self.assertEqual(hall.say("row"), joined(Row(machine).row_of(0)))

    def test_rooms_that_are_none(self):
        for machine in KNOWN:
            rooms = len(machine[0])
            hall = hall_of(machine)
            for room in range(11):
                if room < rooms:
                    self.assertEqual(hall.say(f"at {room}"), "ok")
                else:
                    self.unchanged(hall, NoName, [f"at {room}"])
                self.unchanged(hall, NoName, [f"at 0{room}", f"at {room}0", f"at -{room}", f"at {room}\n"])

    def test_names_of_letters_that_this_machine_has_not(self):
        hall = Hall("x: 0 1")
        self.assertEqual(hall.say("go x"), "0")
        self.unchanged(hall, NoName, ["go up", "go x up", "go y", "go xx"])

    def test_each_count_of_words(self):
        hall = Hall(TEXT)
        for first, behind in itertools.product(("go", "at", "row", "parts", "about", "x", ""), range(4)):
            row = " ".join([first] + ["?"] * behind)
            due = {"go": behind >= 1, "at": behind == 1}.get(first, first in ("row", "parts", "about") and behind == 0)
            if not due:
                self.unchanged(hall, NoRow, [row])
            elif behind:
                self.unchanged(hall, NoName, [row])


class TwoHalls(Refusals):
    def test_of_the_same_text(self):
        one, other = Hall(TEXT), Hall(TEXT)
        one.say("go up")
        self.assertEqual((one.say("row"), other.say("row")), ("0 1 0", "0 0 0"))
        other.say("go swap")
        self.assertEqual((one.say("row"), other.say("row")), ("0 1 0", "1 0 0"))
        self.refused(NoName, one.say, "go left")
        one.say("at 2")
        self.assertEqual((one.say("row"), other.say("row")), ("0 0 1", "1 0 0"))

    def test_of_unlike_texts(self):
        one, other = hall_of(UP_AND_SWAP), hall_of(EXCHANGES)
        self.assertEqual((one.say("parts"), other.say("parts")), ("turn/2 bring/2 bring/2", "turn/120 bring/5"))
        self.assertEqual((one.say("go up"), other.say("go up up up")), ("1", "3"))
        self.assertEqual((one.say("row"), other.say("row")), ("0 1 0", "90 0"))
        self.assertEqual((other.say("about"), one.say("about")), ("up: 0 1 2 3 4", "abcdefgh: 0 1 2"))
        self.assertEqual(one.say("row"), "0 1 0")

    def test_beside_a_row_of_the_machine(self):
        hall = Hall(TEXT)
        row = Row(UP_AND_SWAP)
        row.parts().clear()
        row.gone((1, 1, 1), [0, 1, 0])
        self.assertEqual(said(hall, ("row", "parts")), ["0 0 0", "turn/2 bring/2 bring/2"])

    def test_a_told_word_that_is_changed(self):
        hall = Hall(TEXT)
        before = hall.say("about")
        about(UP_AND_SWAP)[0].clear()
        self.assertEqual(hall.say("about"), before)


if __name__ == "__main__":
    unittest.main()
