import unittest

from crossbrace.floors import floor_of
from crossbrace.forces import at_rest
from crossbrace.leans import broken, slack
from crossbrace.ropes import hung, rope_plan
from crossbrace.taut import all_taut, tautness
from crossbrace.ways import judged
from samples import FLOORS, Checks, all_ropes, crossing, floor_drawn, leads, plans

OTHER = {"rising": "falling", "falling": "rising"}
SQUARE = floor_of(2, 2, [0, 1, 2, 3])
ROUND = [(0, "rising"), (1, "falling"), (2, "falling"), (3, "rising")]


def taut_ones(floor, braces, ropes):
    """The ropes whose ends lead back to their starts."""
    reach = leads(floor, braces, ropes)
    found = []
    for field, word in ropes:
        row, column = crossing(floor, field)
        if column in reach[row] if word == "rising" else row in reach[column]:
            found.append((field, word))
    return found


def turned_about(ropes):
    return sorted((field, OTHER[word]) for field, word in ropes)


class Tautness(Checks):
    def check_tautness(self, floor, braces, ropes, rope):
        told = tautness(floor, braces, ropes, rope)
        self.assertIs(type(told), tuple)
        self.assertEqual(len(told), 2)
        if told[0] == "taut":
            self.check_taut_pulls(floor, braces, ropes, told[1])
            self.assertIn(rope, [pull[:2] for pull in told[1]])
            self.assertEqual(at_rest(floor, told[1])[0], "rest")
        else:
            self.assertEqual(told[0], "slack")
            self.check_breaks_nothing(floor, braces, ropes, told[1])
            self.assertIsNone(broken(floor, braces, ropes, told[1]))
            self.assertTrue(slack(floor, told[1], rope))
        return told[0]

    def test_one_place(self):
        floor = floor_of(1, 1, [0])
        both = [(0, "falling"), (0, "rising")]
        for rope in both:
            self.assertEqual(tautness(floor, [], both, rope), ("taut", [(0, "falling", 1), (0, "rising", 1)]))
            self.assertEqual(self.check_tautness(floor, [], [rope], rope), "slack")

    def test_ropes_round(self):
        for rope in ROUND:
            self.assertEqual(self.check_tautness(SQUARE, [], ROUND, rope), "taut")
            left = [other for other in ROUND if other != rope]
            for other in left:
                self.assertEqual(self.check_tautness(SQUARE, [], left, other), "slack")
                self.assertEqual(self.check_tautness(SQUARE, [rope[0]], left, other), "taut")

    def test_one_rope_against_braces(self):
        for word in ("rising", "falling"):
            for field in range(4):
                braces = [other for other in range(4) if other != field]
                self.assertEqual(self.check_tautness(SQUARE, braces, [(field, word)], (field, word)), "taut")
                for other in braces:
                    left = [brace for brace in braces if brace != other]
                    self.assertEqual(self.check_tautness(SQUARE, left, [(field, word)], (field, word)), "slack")

    def test_taut_and_slack_ropes_on_one_floor(self):
        floor = floor_of(3, 1, [0, 1, 2])
        ropes = [(0, "falling"), (0, "rising"), (1, "rising")]
        self.assertEqual([self.check_tautness(floor, [2], ropes, rope) for rope in ropes], ["taut", "taut", "slack"])

    def test_each_rope_of_many_floors(self):
        seen = []
        for floor, braces, ropes in plans(2, 5):
            wanted = taut_ones(floor, braces, ropes)
            for rope in ropes[::3]:
                with self.subTest(floor=floor, braces=braces, ropes=ropes, rope=rope):
                    told = self.check_tautness(floor, braces, ropes, rope)
                    self.assertEqual(told == "taut", rope in wanted)
                    seen.append(told)
        self.assertGreater(seen.count("taut"), 100)
        self.assertGreater(seen.count("slack"), 100)

    def test_both_ropes_of_a_field_are_taut_and_hold_it_as_a_brace_does(self):
        for floor, braces, ropes in plans(1, 9):
            free = [field for field in floor[2] if field not in braces]
            for field in free[:2]:
                others = [rope for rope in ropes if rope[0] != field]
                both = sorted(others + [(field, "falling"), (field, "rising")])
                braced = sorted(braces + [field])
                self.assertEqual(hung(floor, braces, both)[0], hung(floor, braced, others)[0])
                self.assertEqual(self.check_tautness(floor, braces, both, (field, "falling")), "taut")
                self.assertEqual(self.check_tautness(floor, braces, both, (field, "rising")), "taut")
                for rope in others[::4]:
                    self.assertEqual(tautness(floor, braces, both, rope)[0], tautness(floor, braced, others, rope)[0])

    def test_a_brace_in_the_place_of_a_taut_rope_changes_no_other_word(self):
        for floor, braces, ropes in plans(1, 13):
            for rope in ropes[::5]:
                others = [other for other in ropes if other[0] != rope[0]]
                if len(others) == len(ropes) - 1 and tautness(floor, braces, ropes, rope)[0] == "taut":
                    for other in others[::3]:
                        self.assertEqual(tautness(floor, sorted(braces + [rope[0]]), others, other)[0],
                                         tautness(floor, braces, ropes, other)[0])

    def test_hung_the_other_way_about_all_keep_their_words(self):
        for floor, braces, ropes in plans(1, 17):
            for field, word in ropes[::4]:
                self.assertEqual(tautness(floor, braces, turned_about(ropes), (field, OTHER[word]))[0],
                                 tautness(floor, braces, ropes, (field, word))[0])


class AllTaut(Checks):
    def check_all_taut(self, floor, braces, ropes):
        told = all_taut(floor, braces, ropes)
        if told is not None:
            self.check_taut_pulls(floor, braces, ropes, told)
            self.assertLessEqual(set(ropes), {pull[:2] for pull in told})
            self.assertEqual(at_rest(floor, told)[0], "rest")
        return told is not None

    def test_where_there_are_none(self):
        for floor in FLOORS:
            for braces in ([], list(floor[2])):
                self.assertTrue(self.check_all_taut(floor, braces, []))

    def test_by_hand(self):
        self.assertTrue(self.check_all_taut(SQUARE, [], ROUND))
        self.assertFalse(self.check_all_taut(SQUARE, [], ROUND[:3]))
        self.assertTrue(self.check_all_taut(SQUARE, [3], ROUND[:3]))
        self.assertFalse(self.check_all_taut(SQUARE, [], [(0, "falling"), (0, "rising"), (1, "rising")]))
        self.assertTrue(self.check_all_taut(SQUARE, [], [(0, "falling"), (0, "rising")]))

    def test_braces_between_ropes_that_pull_against_one_another(self):
        # By two ropes of unlike words round the brace 0 the numbers there may come to 0.
        floor = floor_of(3, 2, list(range(6)))
        self.assertTrue(self.check_all_taut(floor, [0, 1, 2, 3], [(4, "rising"), (5, "falling")]))

    def test_rope_plans(self):
        for wide in range(1, 7):
            for high in range(1, 7):
                floor = floor_of(wide, high, list(range(wide * high)))
                told = rope_plan(wide, high)
                self.assertTrue(self.check_all_taut(floor, [], told))
                self.assertFalse(self.check_all_taut(floor, [], told[1:]))

    def test_just_where_each_rope_is_taut(self):
        seen = []
        for floor, braces, ropes in plans(5, 21):
            with self.subTest(floor=floor, braces=braces, ropes=ropes):
                told = self.check_all_taut(floor, braces, ropes)
                self.assertEqual(told, taut_ones(floor, braces, ropes) == ropes)
                seen.append(told)
        self.assertGreater(seen.count(True), 50)
        self.assertGreater(seen.count(False), 50)

    def test_a_floor_is_stiff_just_where_all_ropes_are_taut_and_would_hold_it_as_braces(self):
        seen = set()
        for floor, braces, ropes in plans(4, 25):
            taut = all_taut(floor, braces, ropes) is not None
            as_braces = judged(floor, sorted(set(braces + [field for field, word in ropes])))[0] == "stiff"
            told = hung(floor, braces, ropes)[0] == "stiff"
            self.assertEqual(told, taut and as_braces)
            seen.add((taut, as_braces))
        self.assertEqual(seen, {(True, True), (True, False), (False, True), (False, False)})

    def test_any_shape_with_all_ropes(self):
        for shape in ("o", "oooooo", "oo/.o", "o.o.o/ooooo/o.o.o"):
            floor = floor_drawn(shape)
            self.assertTrue(self.check_all_taut(floor, [], all_ropes(floor[2])))
            self.assertFalse(self.check_all_taut(floor, [], all_ropes(floor[2])[1:]))


if __name__ == "__main__":
    unittest.main()
