"""Every name of the interface, with its arguments as they stand there."""

import importlib
import inspect
import unittest

NAMES = """
floors floor_of wide high fields
floors corners floor
floors corners_at floor field
floors sides floor
strips strips floor
strips crossing floor field
strips strip_of floor side
leans leans lean
leans speeds floor lean
leans stretch floor lean start end
leans broken floor braces ropes lean
leans slack floor lean rope
ways judged floor braces
ways pieces floor braces
ways held floor braces
ways lean_at floor braces field
ways lacking floor braces
spares weighed floor braces field
spares loses floor braces
spares stripped floor braces
choices is_choice floor fields
choices cheapest floor prices
choices cheaper floor prices choice
choices exchanges floor one other
counts how_many floor
forces restless floor pulls forces
forces at_rest floor pulls
forces pulls_at floor braces field
ropes hung floor braces ropes
ropes rope_plan wide high
taut tautness floor braces ropes rope
taut all_taut floor braces ropes
poses turned_by k
poses pose floor turns
poses unsquare floor braces turns
poses turns_of floor braces
turned quarter floor
turned mirrored floor
turned quarter_field floor field
turned mirrored_field floor field
turned quarter_ropes floor ropes
turned mirrored_ropes floor ropes
turned swapped wide high columns rows fields
texts show_plan plan
texts read_plan text
desk Desk text
"""


class Interface(unittest.TestCase):
    def test_each_name_with_its_arguments(self):
        for row in NAMES.strip().split("\n"):
            module, name, *arguments = row.split()
            with self.subTest(module=module, name=name):
                thing = getattr(importlib.import_module("crossbrace." + module), name)
                self.assertEqual(list(inspect.signature(thing).parameters), arguments)

    def test_what_a_desk_is_told(self):
        desk = importlib.import_module("crossbrace.desk").Desk
        self.assertEqual(list(inspect.signature(desk.say).parameters), ["self", "row"])


if __name__ == "__main__":
    unittest.main()
