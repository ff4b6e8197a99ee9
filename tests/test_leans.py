import unittest

from crossbrace.floors import corners, corners_at, floor_of, sides
from crossbrace.leans import broken, leans, slack, speeds, stretch
from crossbrace.strips import strip_of
from samples import FLOORS, all_ropes, crossing, floor_drawn, plans, some_leans


def bar_ends(floor, field, word):
    lower_left, lower_right, upper_left, upper_right = corners_at(floor, field)
    return (lower_left, upper_right) if word == "rising" else (lower_right, upper_left)


def expected_stretch(floor, told, start, end):
    """By the words of the document, from speeds that are told."""
    at = {corner: (dx, dy) for corner, dx, dy in told}
    row = floor[0] + 1
    return ((at[end][0] - at[start][0]) * (end % row - start % row)
            + (at[end][1] - at[start][1]) * (end // row - start // row))


class Leans(unittest.TestCase):
    def test_turns_alike_do_not_lean(self):
        for lean in ([0, 0], [5, 5, 5], [-3] * 7, [999999] * 12, [-999999] * 12):
            self.assertIs(leans(lean), False)

    def test_turns_unlike_lean_wherever_the_other_one_is(self):
        for lean in ([0, 1], [1, 0], [0, 0, -1], [2, 2, 3, 2], [-999999, 999999], [999999, 999999, 999998], [1, -1]):
            self.assertIs(leans(lean), True)


class Speeds(unittest.TestCase):
    def test_one_place(self):
        floor = floor_of(1, 1, [0])
        self.assertEqual(speeds(floor, [5, 2]), [(0, 0, 0), (1, 0, 2), (2, -5, 0), (3, -5, 2)])

    def test_one_row(self):
        floor = floor_of(2, 1, [0, 1])
        self.assertEqual(speeds(floor, [5, 2, -3]),
                         [(0, 0, 0), (1, 0, 2), (2, 0, -1), (3, -5, 0), (4, -5, 2), (5, -5, -1)])

    def test_the_least_corner_may_lie_right_of_others(self):
        # Strips: row (1,), row (2, 3), column (1, 3), column (2,); the corner 0 is none of the floor.
        floor = floor_drawn("oo/.o")
        self.assertEqual(speeds(floor, [1, 10, 100, 1000]), [
            (1, 0, 0), (2, 0, 100), (3, -1, -1000), (4, -1, 0), (5, -1, 100),
            (6, -11, -1000), (7, -11, 0), (8, -11, 100)])

    def test_each_side_grows_by_the_turn_of_its_strip(self):
        for floor in FLOORS:
            for lean in some_leans(floor):
                with self.subTest(floor=floor, lean=lean):
                    told = speeds(floor, lean)
                    self.assertEqual([corner for corner, dx, dy in told], corners(floor))
                    self.assertEqual(told[0], (corners(floor)[0], 0, 0))
                    at = {corner: (dx, dy) for corner, dx, dy in told}
                    for side in sides(floor):
                        turn = lean[strip_of(floor, side)]
                        end = side[1] + (1 if side[0] == "across" else floor[0] + 1)
                        grown = (at[end][0] - at[side[1]][0], at[end][1] - at[side[1]][1])
                        self.assertEqual(grown, (0, turn) if side[0] == "across" else (-turn, 0))

    def test_the_kinds_of_what_is_told(self):
        told = speeds(floor_of(2, 2, [0, 1, 2]), [1, 2, 3, 4])
        self.assertIs(type(told), list)
        for speed in told:
            self.assertIs(type(speed), tuple)
            self.assertEqual([type(part) for part in speed], [int, int, int])

    def test_turns_alike_turn_the_floor_as_a_whole(self):
        for floor in FLOORS:
            number = len(next(iter(some_leans(floor))))
            row = floor[0] + 1
            least = corners(floor)[0]
            for corner, dx, dy in speeds(floor, [4] * number):
                self.assertEqual((dx, dy), (-4 * (corner // row - least // row), 4 * (corner % row - least % row)))


class Stretch(unittest.TestCase):
    def test_one_row_by_hand(self):
        floor = floor_of(2, 1, [0, 1])
        self.assertEqual(stretch(floor, [5, 2, -3], 0, 5), -11)
        self.assertEqual(stretch(floor, [5, 2, -3], 5, 0), -11)
        self.assertEqual(stretch(floor, [5, 2, -3], 2, 3), 11)
        self.assertEqual(stretch(floor, [5, 2, -3], 0, 4), -3)
        self.assertEqual(stretch(floor, [5, 2, -3], 1, 3), 3)
        self.assertEqual(stretch(floor, [5, 2, -3], 1, 5), -8)

    def test_it_is_0_for_each_side(self):
        for floor in FLOORS[:12]:
            for lean in some_leans(floor):
                for word, start in sides(floor):
                    end = start + (1 if word == "across" else floor[0] + 1)
                    self.assertEqual(stretch(floor, lean, start, end), 0)

    def test_both_ends_the_same_corner(self):
        for floor in FLOORS:
            lean = list(some_leans(floor))[-1]
            for corner in corners(floor):
                self.assertEqual(stretch(floor, lean, corner, corner), 0)

    def test_the_bars_of_each_field(self):
        for floor in FLOORS:
            for lean in list(some_leans(floor))[3:7] + list(some_leans(floor))[-1:]:
                for field in floor[2]:
                    row, column = crossing(floor, field)
                    with self.subTest(floor=floor, lean=lean, field=field):
                        rising = stretch(floor, lean, *bar_ends(floor, field, "rising"))
                        falling = stretch(floor, lean, *bar_ends(floor, field, "falling"))
                        self.assertEqual((rising, falling), (lean[column] - lean[row], lean[row] - lean[column]))

    def test_any_two_corners_by_the_growth_of_their_speeds(self):
        for floor in FLOORS[:9] + [floor_drawn("o.o.o/ooooo/o.o.o")]:
            lean = list(some_leans(floor))[-1]
            told = speeds(floor, lean)
            for start in corners(floor):
                for end in corners(floor):
                    self.assertEqual(stretch(floor, lean, start, end), expected_stretch(floor, told, start, end))

    def test_turns_alike_stretch_nothing(self):
        floor = floor_of(6, 6, list(range(36)))
        for start, end in ((0, 48), (6, 42), (17, 31), (48, 0)):
            self.assertEqual(stretch(floor, [-999999] * 12, start, end), 0)


class Broken(unittest.TestCase):
    def expected(self, floor, braces, ropes, lean):
        told = speeds(floor, lean)
        for field in braces:
            if expected_stretch(floor, told, *bar_ends(floor, field, "rising")):
                return ("brace", field)
        for field, word in ropes:
            if expected_stretch(floor, told, *bar_ends(floor, field, word)) > 0:
                return ("rope", field, word)
        return None

    def test_one_place(self):
        floor = floor_of(1, 1, [0])
        self.assertEqual(broken(floor, [0], [], [1, 0]), ("brace", 0))
        self.assertEqual(broken(floor, [0], [], [0, 1]), ("brace", 0))
        self.assertIsNone(broken(floor, [0], [], [3, 3]))
        self.assertIsNone(broken(floor, [], [], [1, 0]))
        self.assertIsNone(broken(floor, [], [(0, "rising")], [1, 0]))
        self.assertEqual(broken(floor, [], [(0, "rising")], [0, 1]), ("rope", 0, "rising"))
        self.assertEqual(broken(floor, [], [(0, "falling")], [1, 0]), ("rope", 0, "falling"))
        self.assertIsNone(broken(floor, [], [(0, "falling")], [0, 1]))
        both = [(0, "falling"), (0, "rising")]
        self.assertEqual(broken(floor, [], both, [1, 0]), ("rope", 0, "falling"))
        self.assertEqual(broken(floor, [], both, [-1, 0]), ("rope", 0, "rising"))
        self.assertIsNone(broken(floor, [], both, [-1, -1]))

    def test_the_first_brace_comes_ahead_of_any_rope(self):
        # Strips: two rows, two columns; the turns shear each field.
        floor = floor_of(2, 2, [0, 1, 2, 3])
        self.assertEqual(broken(floor, [2, 3], [(0, "falling"), (1, "rising")], [1, 1, 0, 0]), ("brace", 2))
        self.assertEqual(broken(floor, [3], [(0, "falling"), (1, "falling")], [1, 1, 0, 0]), ("brace", 3))
        self.assertEqual(broken(floor, [3], [(0, "rising"), (1, "falling")], [1, 0, 0, 0]), ("rope", 1, "falling"))
        self.assertIsNone(broken(floor, [3], [(0, "rising"), (1, "rising")], [1, 0, 0, 0]))
        self.assertEqual(broken(floor, [1, 3], [(0, "rising")], [0, 1, 5, 0]), ("brace", 3))

    def test_braces_and_ropes_of_many_floors(self):
        seen = set()
        for floor, braces, ropes in plans(2):
            for lean in some_leans(floor):
                with self.subTest(floor=floor, braces=braces, ropes=ropes, lean=lean):
                    told = broken(floor, braces, ropes, lean)
                    self.assertEqual(told, self.expected(floor, braces, ropes, lean))
                    seen.add(told if told is None else (told[0],) + told[2:])
        self.assertEqual(seen, {None, ("brace",), ("rope", "rising"), ("rope", "falling")})


class Slack(unittest.TestCase):
    def test_one_place(self):
        floor = floor_of(1, 1, [0])
        self.assertIs(slack(floor, [1, 0], (0, "rising")), True)
        self.assertIs(slack(floor, [0, 1], (0, "rising")), False)
        self.assertIs(slack(floor, [1, 0], (0, "falling")), False)
        self.assertIs(slack(floor, [0, 1], (0, "falling")), True)
        self.assertIs(slack(floor, [4, 4], (0, "falling")), False)
        self.assertIs(slack(floor, [4, 4], (0, "rising")), False)
        self.assertIs(slack(floor, [-999999, 999999], (0, "falling")), True)

    def test_each_rope_of_each_sample(self):
        for floor in FLOORS:
            for lean in some_leans(floor):
                told = speeds(floor, lean)
                for field, word in all_ropes(floor[2]):
                    shortened = expected_stretch(floor, told, *bar_ends(floor, field, word)) < 0
                    self.assertIs(slack(floor, lean, (field, word)), shortened)


if __name__ == "__main__":
    unittest.main()
