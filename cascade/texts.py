"""Machines written as texts: a row for each letter, with its name and the rooms to which it leads."""

from cascade.errors import NoMachine, NoText
from cascade.machines import check

SMALL_LETTERS = "abcdefghijklmnopqrstuvwxyz"
FIGURES = "0123456789"
MOST_SIGNS = 8


def has_only(text, signs):
    return all([sign in signs for sign in text])


def is_name(text):
    return 1 <= len(text) <= MOST_SIGNS and has_only(text, SMALL_LETTERS)


# A blank and a figure, again and again: the blanks stand at the even places, the figures at the odd ones.
def is_figures(text):
    if text == "" or len(text) % 2 != 0:
        return False
    return has_only(text[0::2], " ") and has_only(text[1::2], FIGURES)


def read_row(row):
    halves = row.partition(":")
    if not is_name(halves[0]) or not is_figures(halves[2]):
        raise NoText(f"a row is a name of one to {MOST_SIGNS} small letters, a : and figures, a blank ahead of each")
    return (halves[0], tuple([int(figure) for figure in halves[2][1::2]]))


# All rows are read ahead of any look at what they write, since NoText goes first.
def read(text):
    if not isinstance(text, str):
        raise NoText("a machine is read from a text")
    rows = [read_row(row) for row in text.split("\n")]
    names = tuple([name for name, turn in rows])
    if len(set(names)) != len(names):
        raise NoMachine("each letter has a name of its own")
    machine = tuple([turn for name, turn in rows])
    check(machine)
    return (names, machine)


def shown_row(name, turn):
    figures = "".join([f" {room}" for room in turn])
    return f"{name}:{figures}"


def shown(names, machine):
    return "\n".join([shown_row(name, turn) for name, turn in zip(names, machine)])
