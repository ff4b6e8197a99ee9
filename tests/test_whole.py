"""What the program promises as a whole, over floors, braces and ropes of many shapes."""

import itertools
import unittest

from crossbrace.choices import cheaper, cheapest, exchanges, is_choice
from crossbrace.counts import how_many
from crossbrace.errors import Apart, Hollow
from crossbrace.floors import floor_of
from crossbrace.forces import at_rest, pulls_at, restless
from crossbrace.leans import broken, leans, slack, stretch
from crossbrace.poses import pose, turns_of, unsquare
from crossbrace.ropes import hung
from crossbrace.spares import loses, stripped, weighed
from crossbrace.taut import all_taut, tautness
from crossbrace.texts import read_plan, show_plan
from crossbrace.turned import mirrored, mirrored_field, mirrored_ropes, quarter, quarter_field, quarter_ropes
from crossbrace.ways import held, judged, lacking, lean_at, pieces
from samples import (FLOORS, Chance, Checks, all_choices, all_ropes, crossing, picks, plans, pulled_corners,
                     some_choices, strips)


def floors_of_many_shapes():
    """All floors of three by two places, and others of any shape."""
    for wide, high, places in ((3, 2, all_choices(3, 2)), (2, 3, all_choices(2, 3)), (4, 4, some_choices(4, 4, 400))):
        for fields in places:
            try:
                yield floor_of(wide, high, fields)
            except (Apart, Hollow):
                pass
    yield from FLOORS


def more_plans():
    for place, floor in enumerate(floors_of_many_shapes()):
        chance = Chance(place)
        for braces in picks(floor[2], 1, place):
            free = [rope for rope in all_ropes(floor[2]) if rope[0] not in braces]
            yield floor, braces, [rope for rope in free if chance.below(3)]


class Promise(Checks):
    def check_judged(self, floor, braces):
        told = judged(floor, braces)
        if told[0] == "stiff":
            for strip, way in enumerate(told[1]):
                self.check_way(floor, braces, way, 0, strip)
            self.assertEqual((pieces(floor, braces), lacking(floor, braces)), ([list(range(len(strips(floor))))], []))
            self.assertEqual(held(floor, braces), list(floor[2]))
        else:
            self.assertTrue(leans(told[1]))
            self.assertIsNone(broken(floor, braces, [], told[1]))
            self.assertEqual(loses(floor, braces)[0], "leans")
            loose = [field for field in floor[2] if field not in held(floor, braces)]
            self.assertEqual(broken(floor, [loose[0]], [], lean_at(floor, braces, loose[0])), ("brace", loose[0]))
        return told[0] == "stiff"

    def check_braces(self, floor, braces):
        for field in braces:
            told = weighed(floor, braces, field)
            pulls = pulls_at(floor, braces, field)
            self.assertEqual(told[0] == "spare", pulls is not None)
            if told[0] == "spare":
                self.check_ring(floor, braces, told[1])
                verdict = at_rest(floor, pulls)
                self.assertEqual((verdict[0], restless(floor, pulls, verdict[1])), ("rest", None))
                self.assertEqual(set(pulled_corners(floor, pulls, verdict[1]).values()), {(0, 0)})
            else:
                self.check_breaks_alone(floor, braces, field, told[1])

    def check_ropes(self, floor, braces, ropes):
        told = hung(floor, braces, ropes)
        if told[0] == "stiff":
            for strip in range(len(strips(floor))):
                self.check_run(floor, braces, ropes, told[1][strip], 0, strip)
                self.check_run(floor, braces, ropes, told[2][strip], strip, 0)
        else:
            self.assertTrue(leans(told[1]))
            self.assertIsNone(broken(floor, braces, ropes, told[1]))
        words = [self.check_rope(floor, braces, ropes, rope) for rope in ropes]
        self.assertEqual(all_taut(floor, braces, ropes) is not None, words == ["taut"] * len(ropes))
        as_braces = sorted(set(braces + [field for field, word in ropes]))
        self.assertEqual(told[0] == "stiff", "slack" not in words and judged(floor, as_braces)[0] == "stiff")

    def check_rope(self, floor, braces, ropes, rope):
        told = tautness(floor, braces, ropes, rope)
        if told[0] == "taut":
            self.check_taut_pulls(floor, braces, ropes, told[1])
            verdict = at_rest(floor, told[1])
            self.assertEqual((verdict[0], restless(floor, told[1], verdict[1])), ("rest", None))
        else:
            self.assertIsNone(broken(floor, braces, ropes, told[1]))
            self.assertTrue(slack(floor, told[1], rope))
        return told[0]

    def check_pose(self, floor, braces, stiff):
        turns = turns_of(floor, braces)
        self.assertEqual(turns is None, stiff)
        if turns is not None:
            self.assertTrue(leans(turns))
            self.assertIsNone(unsquare(floor, braces, turns))
            self.assertEqual(len(pose(floor, turns)), len({spot[0] for spot in pose(floor, turns)}))

    def check_turned(self, floor, braces, ropes):
        for about, about_field, about_ropes in ((quarter, quarter_field, quarter_ropes),
                                                (mirrored, mirrored_field, mirrored_ropes)):
            put = sorted(about_field(floor, field) for field in braces)
            self.assertEqual(judged(about(floor), put)[0], judged(floor, braces)[0])
            self.assertEqual(hung(about(floor), put, about_ropes(floor, ropes))[0], hung(floor, braces, ropes)[0])
            self.assertEqual(how_many(about(floor)), how_many(floor))

    def check_choices(self, floor):
        choice = cheapest(floor, [-field for field in floor[2]])
        other = stripped(floor, list(floor[2]))
        self.check_choice(floor, choice)
        self.check_choice(floor, other)
        self.check_choice(floor, lacking(floor, []))
        self.assertTrue(is_choice(floor, choice))
        prices = [field % 3 for field in floor[2]]
        told = cheaper(floor, prices, choice)
        best = cheapest(floor, prices)
        cost = dict(zip(floor[2], prices))
        self.assertEqual(told is None, sum(cost[field] for field in choice) == sum(cost[field] for field in best))
        now = choice
        for out, come in exchanges(floor, choice, other):
            now = sorted([field for field in now if field != out] + [come])
            self.assertTrue(is_choice(floor, now))
        self.assertEqual(now, other)

    def test_floors_braces_and_ropes_of_many_shapes(self):
        seen = set()
        for floor, braces, ropes in itertools.chain(more_plans(), plans(1, 51)):
            with self.subTest(text=show_plan((floor, braces, ropes))):
                stiff = self.check_judged(floor, braces)
                self.check_braces(floor, braces)
                self.check_ropes(floor, braces, ropes)
                self.check_pose(floor, braces, stiff)
                self.check_turned(floor, braces, ropes)
                self.assertEqual(read_plan(show_plan((floor, braces, ropes))), (floor, braces, ropes))
                seen.add((stiff, hung(floor, braces, ropes)[0]))
        self.assertEqual(seen, {(True, "stiff"), (False, "stiff"), (False, "leans")})

    def test_choices_of_floors_of_many_shapes(self):
        for floor in floors_of_many_shapes():
            with self.subTest(floor=floor):
                self.check_choices(floor)

    def test_one_choice_alone_just_where_each_brace_is_needed(self):
        for floor in floors_of_many_shapes():
            needed = [field for field in floor[2] if weighed(floor, list(floor[2]), field)[0] == "needed"]
            self.assertEqual(how_many(floor) == 1, needed == list(floor[2]))

    def test_a_lean_may_be_looked_at_corner_by_corner(self):
        for floor, braces, ropes in plans(1, 53):
            told = judged(floor, braces)
            if told[0] == "leans":
                for field in floor[2]:
                    row, column = crossing(floor, field)
                    start = field + field // floor[0]
                    end = start + floor[0] + 2
                    self.assertEqual(stretch(floor, told[1], start, end), told[1][column] - told[1][row])


if __name__ == "__main__":
    unittest.main()
