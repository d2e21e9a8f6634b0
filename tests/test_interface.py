"""The names, arguments and defaults as the document tells them."""

import importlib
import inspect
import unittest

TOLD = {
    "turns": ("still(rooms)", "behind(one, other)", "rest_of(turn)"),
    "machines": ("check(thing)", "led(machine, room, word)", "turn_of(machine, word)"),
    "sets": ("is_ahead(one, other)", "carried(machine, rooms, word)", "turns_about(machine, rooms, word)"),
    "family": ("pictures(machine)", "family(machine)", "tiles(machine, rooms)"),
    "monoid": ("all_turns(machine, most=400)", "table(machine, most=400)"),
    "groups": ("groups(machine, most=400)",),
    "levels": ("leads(machine, one, other)", "levels(machine)", "carry(machine, level, k)",
               "tile(machine, level, k, j)"),
    "covers": ("covers(machine)",),
    "tilings": ("tiles_turned(machine, level, k, letter)", "level_group(machine, level)", "rests(machine, level)"),
    "about": ("all_rests(machine, most=400)", "about(machine)"),
    "papers": ("own_turns(machine, level, most=400)",),
    "together": ("together(machine, room, most=400)",),
    "least": ("parting(turns, seen, one, other)", "least(turns, seen, start)"),
    "texts": ("read(text)", "shown(names, machine)"),
}

METHODS = {
    "rows.Row(machine)": ("parts()", "told(row)", "moved(row, letter)", "move(n, ahead, letter)", "row_of(room)",
                          "gone(row, word)"),
    "hall.Hall(text)": ("say(row)",),
}


class Interface(unittest.TestCase):
    def test_each_function_is_there_as_told(self):
        for place, functions in TOLD.items():
            module = importlib.import_module(f"cascade.{place}")
            for told in functions:
                name = told.partition("(")[0]
                self.assertEqual(name + str(inspect.signature(getattr(module, name))), told)

    def test_each_class_is_there_as_told(self):
        for told, methods in METHODS.items():
            place, dot, made = told.partition(".")
            name = made.partition("(")[0]
            found = getattr(importlib.import_module(f"cascade.{place}"), name)
            self.assertEqual(name + str(inspect.signature(found)), made)
            for method in methods:
                asked = method.partition("(")[0]
                alone = str(inspect.signature(getattr(found, asked))).replace("self, ", "").replace("self", "")
                self.assertEqual(asked + alone, method)


if __name__ == "__main__":
    unittest.main()
