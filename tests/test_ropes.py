import unittest

from crossbrace.floors import floor_of
from crossbrace.leans import broken
from crossbrace.ropes import hung, rope_plan
from crossbrace.ways import judged
from samples import FLOORS, Checks, all_ropes, floor_drawn, leads, picks, plans, strips


class Hung(Checks):
    def check_hung(self, floor, braces, ropes):
        told = hung(floor, braces, ropes)
        self.assertIs(type(told), tuple)
        if told[0] == "stiff":
            self.assertEqual(len(told), 3)
            for runs in told[1:]:
                self.assertIs(type(runs), list)
                self.assertEqual(len(runs), len(strips(floor)))
                self.assertEqual(runs[0], [])
            for strip in range(len(strips(floor))):
                self.check_run(floor, braces, ropes, told[1][strip], 0, strip)
                self.check_run(floor, braces, ropes, told[2][strip], strip, 0)
        else:
            self.assertEqual((told[0], len(told)), ("leans", 2))
            self.assertGreater(len(set(told[1])), 1)
            self.check_breaks_nothing(floor, braces, ropes, told[1])
            self.assertIsNone(broken(floor, braces, ropes, told[1]))
        return told[0]

    def test_one_place(self):
        floor = floor_of(1, 1, [0])
        both = [(0, "falling"), (0, "rising")]
        self.assertEqual(hung(floor, [], both), ("stiff", [[], [(0, "falling")]], [[], [(0, "rising")]]))
        self.assertEqual(hung(floor, [0], []), ("stiff", [[], [(0, "brace")]], [[], [(0, "brace")]]))
        for ropes in ([], [(0, "falling")], [(0, "rising")]):
            self.assertEqual(self.check_hung(floor, [], ropes), "leans")

    def test_one_row(self):
        floor = floor_of(3, 1, [0, 1, 2])
        self.assertEqual(self.check_hung(floor, [], all_ropes([0, 1, 2])), "stiff")
        self.assertEqual(self.check_hung(floor, [1], all_ropes([0, 2])), "stiff")
        for rope in all_ropes([0, 2]):
            left = [other for other in all_ropes([0, 2]) if other != rope]
            self.assertEqual(self.check_hung(floor, [1], left), "leans")

    def test_two_by_two_with_ropes_round(self):
        # Row 0 to column 3, to row 1, to column 2, to row 0.
        floor = floor_of(2, 2, [0, 1, 2, 3])
        ropes = [(0, "rising"), (1, "falling"), (2, "falling"), (3, "rising")]
        self.assertEqual(hung(floor, [], ropes), (
            "stiff",
            [[], [(1, "falling"), (3, "rising")], [(1, "falling"), (3, "rising"), (2, "falling")], [(1, "falling")]],
            [[], [(2, "falling"), (0, "rising")], [(0, "rising")], [(3, "rising"), (2, "falling"), (0, "rising")]]))
        for k in range(4):
            other = "falling" if ropes[k][1] == "rising" else "rising"
            turned = ropes[:k] + [(ropes[k][0], other)] + ropes[k + 1:]
            self.assertEqual(self.check_hung(floor, [], turned), "leans")
            self.assertEqual(self.check_hung(floor, [], ropes[:k] + ropes[k + 1:]), "leans")
            self.assertEqual(self.check_hung(floor, [ropes[k][0]], ropes[:k] + ropes[k + 1:]), "stiff")

    def test_out_but_not_back_and_back_but_not_out(self):
        floor = floor_of(2, 2, [0, 1, 2, 3])
        self.assertEqual(self.check_hung(floor, [0, 1], [(2, "rising"), (3, "rising")]), "leans")
        self.assertEqual(self.check_hung(floor, [0, 1], [(2, "falling"), (3, "falling")]), "leans")
        self.assertEqual(self.check_hung(floor, [0, 1], [(2, "rising"), (3, "falling")]), "stiff")

    def test_each_answer_shows_what_it_says(self):
        seen = []
        for floor, braces, ropes in plans(4):
            with self.subTest(floor=floor, braces=braces, ropes=ropes):
                told = self.check_hung(floor, braces, ropes)
                everywhere = set(range(len(strips(floor))))
                self.assertEqual(told == "stiff", all(reach == everywhere for reach in leads(floor, braces, ropes)))
                seen.append(told)
        self.assertGreater(seen.count("stiff"), 50)
        self.assertGreater(seen.count("leans"), 100)

    def test_without_ropes_it_goes_by_the_braces_alone(self):
        for place, floor in enumerate(FLOORS):
            for braces in picks(floor[2], 4, place):
                self.assertEqual(self.check_hung(floor, braces, []), judged(floor, braces)[0])

    def test_any_shape_with_all_ropes(self):
        for floor in FLOORS:
            self.assertEqual(self.check_hung(floor, [], all_ropes(floor[2])), "stiff")
            self.assertEqual(self.check_hung(floor, [], [(field, "rising") for field in floor[2]]), "leans")
            self.assertEqual(self.check_hung(floor, [], [(field, "falling") for field in floor[2]]), "leans")


class RopePlan(Checks):
    def test_each_wide_and_high(self):
        for wide in range(1, 7):
            for high in range(1, 7):
                floor = floor_of(wide, high, list(range(wide * high)))
                with self.subTest(wide=wide, high=high):
                    told = rope_plan(wide, high)
                    self.assertIs(type(told), list)
                    self.assertEqual({type(rope) for rope in told}, {tuple})
                    self.assertEqual(told, sorted(set(told)))
                    self.assertLessEqual(set(told), set(all_ropes(range(wide * high))))
                    self.assertEqual(len(told), 2 * max(wide, high))
                    self.assertEqual(hung(floor, [], told)[0], "stiff")
                    self.assertEqual({len(reach) for reach in leads(floor, [], told)}, {wide + high})

    def test_with_any_one_left_out_the_floor_leans(self):
        for wide in range(1, 7):
            for high in range(1, 7):
                floor = floor_of(wide, high, list(range(wide * high)))
                told = rope_plan(wide, high)
                for rope in told:
                    with self.subTest(wide=wide, high=high, rope=rope):
                        left = [other for other in told if other != rope]
                        verdict = hung(floor, [], left)
                        self.assertEqual(verdict[0], "leans")
                        self.check_breaks_nothing(floor, [], left, verdict[1])

    def test_one_place(self):
        self.assertEqual(rope_plan(1, 1), [(0, "falling"), (0, "rising")])


if __name__ == "__main__":
    unittest.main()
