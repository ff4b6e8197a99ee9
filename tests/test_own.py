"""What is handed in stays as it was, and what is told is the asker's own."""

import copy
import unittest

from crossbrace import (choices, counts, desk, floors, forces, leans, poses, ropes, spares, strips, taut, texts,
                        turned, ways)
from crossbrace.errors import NoDeed
from samples import FLOORS, plans, some_leans


def calls_of_floors():
    for floor in FLOORS:
        field = floor[2][len(floor[2]) // 2]
        side = floors.sides(floor)[-1]
        yield floors.floor_of, (floor[0], floor[1], list(floor[2]))
        yield floors.corners, (floor,)
        yield floors.corners_at, (floor, field)
        yield floors.sides, (floor,)
        yield strips.strips, (floor,)
        yield strips.crossing, (floor, field)
        yield strips.strip_of, (floor, side)
        for lean in some_leans(floor):
            yield leans.leans, (lean,)
            yield leans.speeds, (floor, lean)
            yield leans.stretch, (floor, lean, floors.corners(floor)[0], floors.corners(floor)[-1])
            yield leans.slack, (floor, lean, (field, "rising"))


def calls_of_braces():
    for floor, braces, hanging in plans(2):
        lean = list(some_leans(floor))[-1]
        yield leans.broken, (floor, braces, hanging, lean)
        yield ways.judged, (floor, braces)
        yield ways.pieces, (floor, braces)
        yield ways.held, (floor, braces)
        yield ways.lacking, (floor, braces)
        yield ways.lean_at, (floor, braces, floor[2][0])
        yield spares.loses, (floor, braces)
        yield spares.stripped, (floor, braces)
        for field in braces[:2]:
            yield spares.weighed, (floor, braces, field)
            yield forces.pulls_at, (floor, braces, field)


def calls_of_ropes():
    for wide, high in ((1, 1), (2, 3), (6, 6), (6, 2)):
        yield ropes.rope_plan, (wide, high)
    for floor, braces, hanging in plans(3):
        yield ropes.hung, (floor, braces, hanging)
        yield taut.all_taut, (floor, braces, hanging)
        for rope in hanging[:2]:
            yield taut.tautness, (floor, braces, hanging, rope)


def calls_of_poses():
    for k in range(-3, 4):
        yield poses.turned_by, (k,)
    for floor, braces, hanging in plans(2):
        turns = [number % 7 - 3 for number in range(len(strips.strips(floor)))]
        yield poses.pose, (floor, turns)
        yield poses.unsquare, (floor, braces, turns)
        yield poses.turns_of, (floor, braces)


def calls_of_turned():
    for floor, braces, hanging in plans(2):
        yield turned.quarter, (floor,)
        yield turned.mirrored, (floor,)
        yield turned.quarter_field, (floor, floor[2][-1])
        yield turned.mirrored_field, (floor, floor[2][-1])
        yield turned.quarter_ropes, (floor, hanging)
        yield turned.mirrored_ropes, (floor, hanging)
        yield texts.show_plan, ((floor, braces, hanging),)
        yield texts.read_plan, (texts.show_plan((floor, braces, hanging)),)
    yield turned.swapped, (3, 2, [0, 1, 2], [0, 1], [0, 1, 5])
    yield turned.swapped, (3, 2, [2, 0, 1], [1, 0], [0, 1, 5])


def calls_of_forces():
    for floor in FLOORS:
        both = [(field, word, field - 9) for field in floor[2] for word in ("falling", "rising")]
        for pulls in ([], both, both[1:]):
            yield forces.at_rest, (floor, pulls)
            yield forces.restless, (floor, pulls, [(side, 1) for side in floors.sides(floor)])
        yield forces.restless, (floor, both, forces.at_rest(floor, both)[1])


def calls_of_choices():
    for floor in FLOORS:
        prices = [(7 * field) % 5 - 2 for field in floor[2]]
        choice = choices.cheapest(floor, [-price for price in prices])
        yield counts.how_many, (floor,)
        yield choices.is_choice, (floor, choice)
        yield choices.cheapest, (floor, prices)
        yield choices.cheaper, (floor, prices, choice)
        yield choices.exchanges, (floor, choice, choices.cheapest(floor, prices))
        yield choices.exchanges, (floor, choice, choice)


CALLS = [calls_of_floors, calls_of_braces, calls_of_choices, calls_of_ropes, calls_of_forces,
         calls_of_poses, calls_of_turned]


def lists_in(thing):
    found = [thing] if isinstance(thing, list) else []
    if isinstance(thing, (list, tuple)):
        for part in thing:
            found.extend(lists_in(part))
    return found


def spoil(thing):
    for part in lists_in(thing):
        part.reverse()
        part.append("spoilt")
        part.insert(0, -1)


class Own(unittest.TestCase):
    def check_own(self, function, given):
        before = copy.deepcopy(given)
        told = function(*given)
        self.assertEqual(given, before)
        kept = copy.deepcopy(told)
        self.assertEqual(len({id(part) for part in lists_in(told)}), len(lists_in(told)))
        spoil(told)
        self.assertEqual(given, before)
        again = function(*given)
        self.assertEqual(again, kept)
        spoil(given)
        self.assertEqual(again, kept)
        self.assertEqual(function(*before), kept)

    def test_each_call(self):
        for calls in CALLS:
            for function, given in calls():
                with self.subTest(function=function.__name__, given=given):
                    self.check_own(function, copy.deepcopy(given))

    def test_each_function_is_asked(self):
        asked = {function.__name__ for calls in CALLS for function, given in calls()}
        self.assertEqual(asked, set("""floor_of corners corners_at sides strips crossing strip_of leans speeds stretch
            broken slack judged pieces held lean_at lacking weighed loses stripped is_choice cheapest cheaper
            exchanges how_many restless at_rest pulls_at hung rope_plan tautness all_taut
            turned_by pose unsquare turns_of quarter mirrored quarter_field mirrored_field quarter_ropes
            mirrored_ropes swapped show_plan read_plan""".split()))

    def test_what_a_desk_is_asked_changes_no_other_desk_and_no_plan(self):
        for plan in plans(1):
            text = texts.show_plan(plan)
            read = texts.read_plan(text)
            one = desk.Desk(text)
            for row in ("clear", "brace"):
                for field in plan[0][2]:
                    try:
                        one.say(f"{row} {field}")
                    except NoDeed:
                        pass
            self.assertEqual(one.say("lacking"), "none")
            self.assertEqual(read, plan)
            self.assertEqual(texts.read_plan(text), plan)
            self.assertEqual(desk.Desk(text).say("show"), text)


if __name__ == "__main__":
    unittest.main()
