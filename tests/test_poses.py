import unittest

from crossbrace.floors import corners, corners_at, floor_of, sides
from crossbrace.poses import pose, turned_by, turns_of, unsquare
from crossbrace.strips import strip_of
from crossbrace.ways import judged
from samples import FLOORS, Chance, Checks, crossing, floor_drawn, parts, picks, strips

STRETCHES = {-3: (-44, -117), -2: (35, -120), -1: (100, -75), 0: (125, 0), 1: (100, 75), 2: (35, 120), 3: (-44, 117)}


def some_turns(floor):
    number = len(strips(floor))
    chance = Chance(number)
    for k in range(-3, 4):
        yield [k] * number
    yield [k % 7 - 3 for k in range(number)]
    yield [3 if k % 2 else -3 for k in range(number)]
    for _ in range(3):
        yield [chance.between(-3, 3) for _ in range(number)]
    yield [chance.below(2) for _ in range(number)]


def squared_length(at, one, other):
    return (at[one][0] - at[other][0]) ** 2 + (at[one][1] - at[other][1]) ** 2


def is_square(floor, at, field):
    """By its corners as they are put down: both bars as long as in a square of sides 125."""
    lower_left, lower_right, upper_left, upper_right = corners_at(floor, field)
    return squared_length(at, lower_left, upper_right) == squared_length(at, lower_right, upper_left) == 2 * 125 ** 2


class TurnedBy(unittest.TestCase):
    def test_from_3_below_to_3_above(self):
        for k, wanted in STRETCHES.items():
            with self.subTest(k=k):
                told = turned_by(k)
                self.assertIs(type(told), tuple)
                self.assertEqual([type(part) for part in told], [int, int])
                self.assertEqual(told, wanted)
                self.assertEqual(told[0] ** 2 + told[1] ** 2, 125 ** 2)


class Pose(unittest.TestCase):
    def test_one_place(self):
        floor = floor_of(1, 1, [0])
        self.assertEqual(pose(floor, [0, 0]), [(0, 0, 0), (1, 125, 0), (2, 0, 125), (3, 125, 125)])
        self.assertEqual(pose(floor, [1, 0]), [(0, 0, 0), (1, 125, 0), (2, -75, 100), (3, 50, 100)])
        self.assertEqual(pose(floor, [0, 1]), [(0, 0, 0), (1, 100, 75), (2, 0, 125), (3, 100, 200)])
        self.assertEqual(pose(floor, [-2, 3]), [(0, 0, 0), (1, -44, 117), (2, 120, 35), (3, 76, 152)])

    def test_the_least_corner_may_lie_right_of_others(self):
        floor = floor_drawn("oo/.o")
        self.assertEqual(pose(floor, [0, 0, 0, 1]), [
            (1, 0, 0), (2, 125, 0), (3, -100, 50), (4, 0, 125), (5, 125, 125),
            (6, -100, 175), (7, 0, 250), (8, 125, 250)])

    def test_each_side_is_put_down_by_the_turned_stretch_of_its_strip(self):
        for floor in FLOORS:
            for turns in some_turns(floor):
                with self.subTest(floor=floor, turns=turns):
                    told = pose(floor, turns)
                    self.assertIs(type(told), list)
                    self.assertEqual({type(spot) for spot in told}, {tuple})
                    self.assertEqual([corner for corner, x, y in told], corners(floor))
                    self.assertEqual(told[0][1:], (0, 0))
                    at = {corner: (x, y) for corner, x, y in told}
                    for side in sides(floor):
                        word, start = side
                        end = start + (1 if word == "across" else floor[0] + 1)
                        x, y = STRETCHES[turns[strip_of(floor, side)]]
                        grown = (at[end][0] - at[start][0], at[end][1] - at[start][1])
                        self.assertEqual(grown, (x, y) if word == "across" else (-y, x))
                        self.assertEqual(squared_length(at, start, end), 125 ** 2)

    def test_a_field_is_a_square_just_where_its_strips_have_one_turn(self):
        for floor in FLOORS:
            for turns in some_turns(floor):
                at = {corner: (x, y) for corner, x, y in pose(floor, turns)}
                for field in floor[2]:
                    row, column = crossing(floor, field)
                    self.assertEqual(is_square(floor, at, field), turns[row] == turns[column])


class Unsquare(unittest.TestCase):
    def test_by_hand(self):
        floor = floor_of(2, 2, [0, 1, 2, 3])
        self.assertIsNone(unsquare(floor, [], [0, 1, 2, 3]))
        self.assertEqual(unsquare(floor, [0, 1, 2, 3], [0, 1, 2, 3]), 0)
        self.assertEqual(unsquare(floor, [0, 1, 2, 3], [1, 1, 1, 0]), 1)
        self.assertEqual(unsquare(floor, [0, 2, 3], [1, 1, 1, 0]), 3)
        self.assertIsNone(unsquare(floor, [0, 2], [1, 1, 1, 0]))
        self.assertIsNone(unsquare(floor, [0, 3], [-3, 3, -3, 3]))
        self.assertIsNone(unsquare(floor, [0, 1, 2, 3], [-2, -2, -2, -2]))
        self.assertEqual(unsquare(floor, [3], [2, 2, 2, -2]), 3)

    def test_the_first_braced_field_that_is_no_square_as_it_is_put_down(self):
        seen = set()
        for place, floor in enumerate(FLOORS):
            for turns in some_turns(floor):
                at = {corner: (x, y) for corner, x, y in pose(floor, turns)}
                for braces in picks(floor[2], 3, place):
                    wanted = [field for field in braces if not is_square(floor, at, field)]
                    self.assertEqual(unsquare(floor, braces, turns), wanted[0] if wanted else None)
                    seen.add(bool(wanted))
        self.assertEqual(seen, {True, False})


class TurnsOf(Checks):
    def check_turns_of(self, floor, braces):
        told = turns_of(floor, braces)
        self.assertEqual(told is None, len(parts(floor, braces)) == 1)
        self.assertEqual(told is None, judged(floor, braces)[0] == "stiff")
        if told is None:
            return False
        self.check_lean(floor, told)
        self.assertTrue(all(-3 <= k <= 3 for k in told))
        self.assertGreater(len(set(told)), 1)
        self.assertIsNone(unsquare(floor, braces, told))
        at = {corner: (x, y) for corner, x, y in pose(floor, told)}
        self.assertEqual([field for field in braces if not is_square(floor, at, field)], [])
        self.assertNotEqual([field for field in floor[2] if not is_square(floor, at, field)], [])
        return True

    def test_one_place(self):
        self.assertTrue(self.check_turns_of(floor_of(1, 1, [0]), []))
        self.assertFalse(self.check_turns_of(floor_of(1, 1, [0]), [0]))

    def test_floors_that_lean_and_floors_that_are_stiff(self):
        seen = []
        for place, floor in enumerate(FLOORS):
            for braces in picks(floor[2], 8, 70 + place):
                with self.subTest(floor=floor, braces=braces):
                    seen.append(self.check_turns_of(floor, braces))
        self.assertGreater(seen.count(True), 50)
        self.assertGreater(seen.count(False), 30)


if __name__ == "__main__":
    unittest.main()
