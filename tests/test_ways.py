import unittest

from crossbrace.floors import floor_of
from crossbrace.ways import held, judged, lacking, lean_at, pieces
from samples import FLOORS, Checks, crossing, floor_drawn, parts, picks, shears, strips


def braced_floors():
    for place, floor in enumerate(FLOORS):
        for braces in picks(floor[2], 8, place):
            yield floor, braces
        for field in floor[2]:
            yield floor, [other for other in floor[2] if other != field]


class Judged(Checks):
    def check_judged(self, floor, braces):
        told = judged(floor, braces)
        self.assertIs(type(told), tuple)
        self.assertEqual(len(told), 2)
        if told[0] == "stiff":
            self.assertIs(type(told[1]), list)
            self.assertEqual(len(told[1]), len(strips(floor)))
            self.assertEqual(told[1][0], [])
            for strip, way in enumerate(told[1]):
                self.check_way(floor, braces, way, 0, strip)
        else:
            self.assertEqual(told[0], "leans")
            self.check_leaning(floor, braces, told[1])
        return told[0]

    def test_one_place(self):
        floor = floor_of(1, 1, [0])
        self.assertEqual(judged(floor, [0]), ("stiff", [[], [0]]))
        self.assertEqual(self.check_judged(floor, []), "leans")

    def test_one_row_is_stiff_with_all_fields_braced_alone(self):
        floor = floor_of(6, 1, list(range(6)))
        self.assertEqual(judged(floor, list(range(6))), ("stiff", [[], [0], [1], [2], [3], [4], [5]]))
        for field in range(6):
            self.assertEqual(self.check_judged(floor, [other for other in range(6) if other != field]), "leans")

    def test_one_column(self):
        floor = floor_of(1, 3, [0, 1, 2])
        self.assertEqual(self.check_judged(floor, [0, 1, 2]), "stiff")
        self.assertEqual(self.check_judged(floor, [0, 2]), "leans")

    def test_two_by_two_any_three_hold_it_and_no_two(self):
        floor = floor_of(2, 2, [0, 1, 2, 3])
        for braces in ([0, 1, 2], [0, 1, 3], [0, 2, 3], [1, 2, 3], [0, 1, 2, 3]):
            self.assertEqual(self.check_judged(floor, braces), "stiff")
        for braces in ([], [0], [0, 1], [0, 2], [0, 3], [1, 2], [1, 3], [2, 3]):
            self.assertEqual(self.check_judged(floor, braces), "leans")

    def test_as_many_braces_as_would_do_but_in_the_wrong_place(self):
        # Five would hold three by three; here four of them lie in a ring.
        floor = floor_of(3, 3, list(range(9)))
        self.assertEqual(self.check_judged(floor, [0, 1, 3, 4, 8]), "leans")
        self.assertEqual(self.check_judged(floor, [0, 1, 4, 5, 8]), "stiff")

    def test_six_by_six(self):
        floor = floor_of(6, 6, list(range(36)))
        stairs = sorted([7 * k for k in range(6)] + [7 * k + 1 for k in range(5)])
        self.assertEqual(self.check_judged(floor, stairs), "stiff")
        for field in stairs:
            self.assertEqual(self.check_judged(floor, [other for other in stairs if other != field]), "leans")
        self.assertEqual(self.check_judged(floor, [7 * k for k in range(6)]), "leans")

    def test_each_answer_shows_what_it_says(self):
        seen = []
        for floor, braces in braced_floors():
            with self.subTest(floor=floor, braces=braces):
                told = self.check_judged(floor, braces)
                self.assertEqual(told == "stiff", len(parts(floor, braces)) == 1)
                seen.append(told)
        self.assertGreater(seen.count("stiff"), 100)
        self.assertGreater(seen.count("leans"), 100)

    def test_all_fields_braced_are_stiff_and_none_never(self):
        for floor in FLOORS:
            self.assertEqual(self.check_judged(floor, list(floor[2])), "stiff")
            self.assertEqual(self.check_judged(floor, []), "leans")


class Pieces(Checks):
    def test_by_hand(self):
        floor = floor_of(2, 2, [0, 1, 2, 3])
        self.assertEqual(pieces(floor, []), [[0], [1], [2], [3]])
        self.assertEqual(pieces(floor, [1]), [[0, 3], [1], [2]])
        self.assertEqual(pieces(floor, [0, 3]), [[0, 2], [1, 3]])
        self.assertEqual(pieces(floor, [1, 2]), [[0, 3], [1, 2]])
        self.assertEqual(pieces(floor, [0, 1, 3]), [[0, 1, 2, 3]])
        self.assertEqual(pieces(floor_of(1, 1, [0]), [0]), [[0, 1]])

    def test_each_floor_with_braces(self):
        for floor, braces in braced_floors():
            with self.subTest(floor=floor, braces=braces):
                told = pieces(floor, braces)
                self.assertEqual(told, parts(floor, braces))
                self.assertEqual({type(piece) for piece in told}, {list})
                self.assertEqual(len(told) == 1, judged(floor, braces)[0] == "stiff")


class Held(Checks):
    def test_by_hand(self):
        floor = floor_of(2, 2, [0, 1, 2, 3])
        self.assertEqual(held(floor, []), [])
        self.assertEqual(held(floor, [0, 3]), [0, 3])
        self.assertEqual(held(floor, [0, 1, 2]), [0, 1, 2, 3])
        self.assertEqual(held(floor_of(3, 3, list(range(9))), [0, 1, 3]), [0, 1, 3, 4])
        self.assertIsNone(lean_at(floor, [0, 1, 2], 3))
        self.check_leaning(floor, [0, 3], lean_at(floor, [0, 3], 1))

    def test_each_field_is_held_or_shears_under_a_lean_that_breaks_nothing(self):
        for floor, braces in braced_floors():
            with self.subTest(floor=floor, braces=braces):
                told = held(floor, braces)
                self.assertIs(type(told), list)
                self.assertEqual(told, sorted(told))
                groups = parts(floor, braces)
                for field in floor[2]:
                    row, column = crossing(floor, field)
                    self.assertEqual(field in told, any(row in group and column in group for group in groups))
                    lean = lean_at(floor, braces, field)
                    if field in told:
                        self.assertIsNone(lean)
                    else:
                        self.check_leaning(floor, braces, lean)
                        self.assertTrue(shears(floor, lean, field))
                self.assertLessEqual(set(braces), set(told))


class Lacking(Checks):
    def test_by_hand(self):
        floor = floor_of(2, 2, [0, 1, 2, 3])
        self.assertEqual(lacking(floor, [0, 1, 2]), [])
        self.assertEqual(len(lacking(floor, [])), 3)
        self.assertIn(lacking(floor, [0, 3]), ([1], [2]))
        self.assertEqual(lacking(floor_of(4, 1, [0, 1, 2, 3]), [1, 2]), [0, 3])
        self.assertEqual(lacking(floor_of(1, 1, [0]), []), [0])
        self.assertEqual(lacking(floor_of(1, 1, [0]), [0]), [])
        # With these in a ring the field 8 alone reaches the last row and column together, so it does not do.
        self.assertEqual(len(lacking(floor_of(3, 3, list(range(9))), [0, 1, 3, 4])), 2)

    def test_just_so_many_that_the_floor_is_stiff(self):
        for floor, braces in braced_floors():
            with self.subTest(floor=floor, braces=braces):
                told = lacking(floor, braces)
                self.assertIs(type(told), list)
                self.assertEqual(told, sorted(set(told)))
                self.assertLessEqual(set(told), set(floor[2]))
                self.assertFalse(set(told) & set(braces))
                self.assertEqual(len(told), len(parts(floor, braces)) - 1)
                self.assertEqual(len(parts(floor, braces + told)), 1)

    def test_with_what_is_lacking_the_floor_is_judged_stiff(self):
        for shape in ("o", "oo/.o", "o.o.o/ooooo/o.o.o", "oooooo/o...../o.oooo/o.o..o/o....o/oooooo"):
            floor = floor_drawn(shape)
            for braces in picks(floor[2], 6, 99):
                self.assertEqual(judged(floor, sorted(braces + lacking(floor, braces)))[0], "stiff")


if __name__ == "__main__":
    unittest.main()
