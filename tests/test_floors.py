import unittest

from crossbrace.errors import Apart, BraceError, Hollow, NoDeed, NoField, NoFloor, NoRow, NoText
from crossbrace.floors import corners, corners_at, floor_of, sides
from samples import SHAPES, all_choices, drawn, fields_of, floor_drawn, some_choices

REFUSALS = [NoFloor, Apart, Hollow, NoText, NoRow, NoField, NoDeed]

# None of these is a whole number from 1 to 6.
NO_LENGTHS = [0, 7, 8, -1, -6, 10 ** 12 - 1, -(10 ** 12 - 1), True, False, "1", "", None, 1.0, 2.5, [1], (1,), {1: 1}]


def linked(spots):
    """The spots in groups that hang together, by joining groups until none touch."""
    groups = [{spot} for spot in spots]
    joined = True
    while joined:
        joined = False
        for one in groups:
            for other in groups:
                if one is not other and any(abs(x - u) + abs(y - v) == 1 for x, y in one for u, v in other):
                    groups.remove(other)
                    one |= other
                    joined = True
                    break
            if joined:
                break
    return groups


def expected_refusal(wide, high, fields):
    spots = [(field % wide, field // wide) for field in fields]
    if len(linked(spots)) > 1:
        return Apart
    empty = [(x, y) for x in range(wide) for y in range(high) if (x, y) not in spots]
    for group in linked(empty):
        if not any(x in (0, wide - 1) or y in (0, high - 1) for x, y in group):
            return Hollow
    return None


class Refusing(unittest.TestCase):
    def refuses(self, refusal, wide, high, fields):
        with self.subTest(wide=wide, high=high, fields=fields):
            with self.assertRaises(ValueError) as caught:
                floor_of(wide, high, fields)
            told = caught.exception
            self.assertIsInstance(told, BraceError)
            self.assertEqual([one for one in REFUSALS if isinstance(told, one)], [refusal])

    def refuses_shape(self, refusal, shape):
        wide, high, fields = fields_of(shape)
        self.refuses(refusal, wide, high, fields)
        self.refuses(refusal, wide, high, tuple(fields))


class MadeFloors(unittest.TestCase):
    def test_whole_floors_of_all_sizes_of_a_list_and_of_a_tuple(self):
        for wide in range(1, 7):
            for high in range(1, 7):
                with self.subTest(wide=wide, high=high):
                    fields = list(range(wide * high))
                    self.assertEqual(floor_of(wide, high, fields), (wide, high, tuple(fields)))
                    self.assertEqual(floor_of(wide, high, tuple(fields)), (wide, high, tuple(fields)))

    def test_one_field_alone_in_each_place_of_all_sizes(self):
        for wide in range(1, 7):
            for high in range(1, 7):
                for field in range(wide * high):
                    with self.subTest(wide=wide, high=high, field=field):
                        self.assertEqual(floor_of(wide, high, [field]), (wide, high, (field,)))

    def test_floors_with_places_missing(self):
        for shape in SHAPES:
            with self.subTest(shape=shape):
                wide, high, fields = fields_of(shape)
                self.assertEqual(floor_of(wide, high, fields), (wide, high, tuple(fields)))
                self.assertEqual(floor_of(wide, high, tuple(fields)), (wide, high, tuple(fields)))

    def test_a_floor_is_made_of_tuples(self):
        floor = floor_of(2, 2, [0, 1, 3])
        self.assertIs(type(floor), tuple)
        self.assertIs(type(floor[2]), tuple)
        self.assertIs(type(floor_of(2, 2, (0, 1, 3))[2]), tuple)

    def test_a_floor_may_be_handed_in_again(self):
        floor = floor_of(3, 2, [0, 1, 2, 3, 5])
        self.assertEqual(floor_of(floor[0], floor[1], floor[2]), floor)

    def test_the_list_handed_in_stays_and_may_be_changed_afterwards(self):
        fields = [0, 1, 2, 4]
        floor = floor_of(3, 2, fields)
        self.assertEqual(fields, [0, 1, 2, 4])
        fields.append(5)
        fields[0] = 3
        self.assertEqual(floor, (3, 2, (0, 1, 2, 4)))
        self.assertEqual(corners(floor), [0, 1, 2, 3, 4, 5, 6, 7, 9, 10])
        self.assertEqual(floor_of(3, 2, [0, 1, 2, 4]), floor)

    def test_a_refused_list_stays_as_it_was(self):
        for fields in [[], [1, 0], [0, 0], [0, 9], [0, "1"], [0, 2], [0, [1]]]:
            with self.subTest(fields=fields):
                kept = repr(fields)
                with self.assertRaises(BraceError):
                    floor_of(3, 2, fields)
                self.assertEqual(repr(fields), kept)


class RefusedAsNoFloor(Refusing):
    def test_wide_and_high_that_are_none(self):
        for thing in NO_LENGTHS:
            self.refuses(NoFloor, thing, 1, [0])
            self.refuses(NoFloor, 1, thing, [0])
            self.refuses(NoFloor, thing, thing, [0])

    def test_fields_in_no_list_or_tuple(self):
        for thing in [None, 0, 1, True, "", "0", {0: True}, {0}, range(1), iter([0]), 1.0, b"\x00"]:
            self.refuses(NoFloor, 1, 1, thing)

    def test_no_fields(self):
        self.refuses(NoFloor, 1, 1, [])
        self.refuses(NoFloor, 6, 6, ())

    def test_a_field_twice(self):
        self.refuses(NoFloor, 2, 1, [0, 0])
        self.refuses(NoFloor, 2, 1, [0, 1, 1])
        self.refuses(NoFloor, 2, 2, (0, 0, 1))
        self.refuses(NoFloor, 2, 2, (0, 1, 0))

    def test_fields_that_do_not_rise(self):
        self.refuses(NoFloor, 2, 1, [1, 0])
        self.refuses(NoFloor, 3, 2, (0, 2, 1))
        self.refuses(NoFloor, 6, 6, list(reversed(range(36))))

    def test_fields_below_nought_or_beyond_the_places(self):
        self.refuses(NoFloor, 1, 1, [-1])
        self.refuses(NoFloor, 2, 2, [-1, 0, 1])
        for wide in range(1, 7):
            for high in range(1, 7):
                self.refuses(NoFloor, wide, high, [wide * high])
                self.refuses(NoFloor, wide, high, list(range(wide * high + 1)))
        self.refuses(NoFloor, 6, 6, [10 ** 12 - 1])
        self.refuses(NoFloor, 6, 6, list(range(100)))

    def test_other_things_among_the_fields(self):
        self.refuses(NoFloor, 2, 1, [False])
        self.refuses(NoFloor, 2, 1, [False, 1])
        self.refuses(NoFloor, 2, 1, [0, True])
        for thing in ["1", "", None, (1,), [1], {}, 1.0, 1.5]:
            self.refuses(NoFloor, 3, 1, [thing])
            self.refuses(NoFloor, 3, 1, [thing, 1])
            self.refuses(NoFloor, 3, 1, (0, thing))
            self.refuses(NoFloor, 3, 1, [0, thing, 2])

    def test_ahead_of_apart(self):
        self.refuses(Apart, 3, 1, [0, 2])
        self.refuses(NoFloor, 3, 1, [2, 0])
        self.refuses(NoFloor, 3, 1, [0, 2, 2])
        self.refuses(NoFloor, 3, 1, [0, 2, 3])
        self.refuses(NoFloor, 3, 1, [-1, 0, 2])
        self.refuses(NoFloor, 3, 1, [False, 2])
        self.refuses(NoFloor, 3, 1, [0, 2, "3"])
        self.refuses(NoFloor, 3, True, [0, 2])
        self.refuses(NoFloor, 3, 7, [0, 2])

    def test_ahead_of_hollow(self):
        ring = [0, 1, 2, 3, 5, 6, 7, 8]
        self.refuses(Hollow, 3, 3, ring)
        self.refuses(NoFloor, 3, 3, list(reversed(ring)))
        self.refuses(NoFloor, 3, 3, ring + [8])
        self.refuses(NoFloor, 3, 3, ring + [9])
        self.refuses(NoFloor, 3, 3, [-1] + ring)
        self.refuses(NoFloor, 3, 3, [False] + ring[1:])
        self.refuses(NoFloor, 3, 3, ring + [(4,)])
        self.refuses(NoFloor, 3, "3", ring)
        self.refuses(NoFloor, 3, 2, ring)


class RefusedAsApart(Refusing):
    def test_fields_that_do_not_hang_together(self):
        for shape in ["o.o", "o/./o", "o./.o", ".o/o.", "ooo/.../ooo", "o.o/o.o", "o.o/.o./o.o", "oo../..oo",
                      "o...../....../....../....../....../.....o"]:
            self.refuses_shape(Apart, shape)

    def test_the_end_of_a_row_and_the_begin_of_the_next_are_not_beside(self):
        self.refuses(Apart, 3, 2, [2, 3])
        self.refuses(Apart, 2, 2, [1, 2])
        self.refuses(Apart, 6, 6, [5, 6])

    def test_ahead_of_hollow(self):
        self.refuses_shape(Apart, "ooo.o/o.o.o/ooo.o")
        self.refuses_shape(Apart, "ooooo/o...o/o.o.o/o...o/ooooo")
        self.refuses_shape(Apart, ".o./o.o/.o.")


class RefusedAsHollow(Refusing):
    def test_fields_with_a_hole(self):
        for shape in ["ooo/o.o/ooo", "oooo/o..o/oooo", "ooo/o.o/o.o/ooo", "ooooo/o.o.o/ooooo",
                      "oooooo/o....o/o....o/o....o/o....o/oooooo",
                      "..ooo/..o.o/..ooo/..o../ooo.."]:
            self.refuses_shape(Hollow, shape)

    def test_places_that_touch_by_a_corner_alone_lead_nowhere(self):
        self.refuses_shape(Hollow, "oo./o.o/ooo")
        self.refuses_shape(Hollow, ".oo/o.o/ooo")
        self.refuses_shape(Hollow, "ooo/o.o/oo.")
        self.refuses_shape(Hollow, "oooo/o.oo/oo.o/oooo")

    def test_one_hole_among_open_bays(self):
        self.refuses_shape(Hollow, "o.oooo/o.o.oo/oooooo/o.oooo")
        self.refuses_shape(Hollow, "oooooo/o.oo.o/oooo.o/oooo.o")

    def test_bays_that_reach_an_outermost_place_are_no_holes(self):
        for shape in ["o.o/o.o/ooo", "ooo/o.o/o.o", "ooo/o../ooo", "ooo/..o/ooo", "oooo/o..o/oo.o",
                      "oooooo/o....o/o.oo.o/o.o..o/o.oooo/o....."]:
            with self.subTest(shape=shape):
                wide, high, fields = fields_of(shape)
                self.assertEqual(floor_of(wide, high, fields), (wide, high, tuple(fields)))


class AllChoicesOfPlaces(unittest.TestCase):
    def agrees(self, wide, high, fields):
        wanted = expected_refusal(wide, high, fields)
        told = None
        try:
            floor = floor_of(wide, high, fields)
        except BraceError as refusal:
            told = type(refusal)
        else:
            self.assertEqual(floor, (wide, high, tuple(fields)))
        self.assertEqual(told, wanted, (wide, high, fields))
        return told

    def test_every_choice_on_small_floors(self):
        met = []
        for wide, high in [(1, 1), (1, 6), (6, 1), (2, 3), (3, 2), (2, 5), (5, 2), (3, 3), (3, 4), (4, 3)]:
            for fields in all_choices(wide, high):
                met.append(self.agrees(wide, high, fields))
        for refusal in (None, Apart, Hollow):
            self.assertIn(refusal, met)

    def test_some_choices_on_greater_floors(self):
        for wide, high in [(4, 4), (5, 4), (4, 6), (6, 5), (6, 6)]:
            whole = set(range(wide * high))
            for fields in some_choices(wide, high, 40):
                self.agrees(wide, high, fields)
                # Few places missing: floors and holes are met more often than parts.
                few = set(fields[:3])
                self.agrees(wide, high, sorted(whole - few))
                self.agrees(wide, high, sorted(whole - set(fields[::5])))


class CornersAndSides(unittest.TestCase):
    def test_one_field(self):
        floor = floor_of(1, 1, [0])
        self.assertEqual(corners(floor), [0, 1, 2, 3])
        self.assertEqual(corners_at(floor, 0), (0, 1, 2, 3))
        self.assertEqual(sides(floor), [("across", 0), ("across", 2), ("up", 0), ("up", 1)])

    def test_a_whole_floor(self):
        floor = floor_of(3, 2, [0, 1, 2, 3, 4, 5])
        self.assertEqual(corners(floor), list(range(12)))
        self.assertEqual([corners_at(floor, field) for field in range(6)], [
            (0, 1, 4, 5), (1, 2, 5, 6), (2, 3, 6, 7), (4, 5, 8, 9), (5, 6, 9, 10), (6, 7, 10, 11)])
        self.assertEqual(sides(floor), [("across", c) for c in [0, 1, 2, 4, 5, 6, 8, 9, 10]]
                         + [("up", c) for c in [0, 1, 2, 3, 4, 5, 6, 7]])

    def test_a_floor_with_places_missing(self):
        floor = floor_of(3, 2, [0, 1, 4])
        self.assertEqual(corners(floor), [0, 1, 2, 4, 5, 6, 9, 10])
        self.assertEqual(corners_at(floor, 4), (5, 6, 9, 10))
        self.assertEqual(sides(floor), [
            ("across", 0), ("across", 1), ("across", 4), ("across", 5), ("across", 9),
            ("up", 0), ("up", 1), ("up", 2), ("up", 5), ("up", 6)])

    def test_a_field_far_from_the_least_corner(self):
        floor = floor_of(6, 6, [35])
        self.assertEqual(corners(floor), [40, 41, 47, 48])
        self.assertEqual(corners_at(floor, 35), (40, 41, 47, 48))
        self.assertEqual(sides(floor), [("across", 40), ("across", 47), ("up", 40), ("up", 41)])

    def test_corners_of_each_sample(self):
        for shape in SHAPES:
            with self.subTest(shape=shape):
                wide, high, spots = drawn(shape)
                wanted = {(y + v) * (wide + 1) + x + u for x, y in spots for u in (0, 1) for v in (0, 1)}
                self.assertEqual(corners(floor_drawn(shape)), sorted(wanted))

    def test_corners_at_each_field_of_each_sample(self):
        for shape in SHAPES:
            wide, high, spots = drawn(shape)
            for x, y in spots:
                with self.subTest(shape=shape, x=x, y=y):
                    wanted = tuple((y + v) * (wide + 1) + x + u for v in (0, 1) for u in (0, 1))
                    told = corners_at(floor_drawn(shape), y * wide + x)
                    self.assertEqual(told, wanted)
                    self.assertIs(type(told), tuple)

    def test_sides_of_each_sample(self):
        for shape in SHAPES:
            with self.subTest(shape=shape):
                wide, high, spots = drawn(shape)
                across = [("across", y * (wide + 1) + x) for y in range(high + 1) for x in range(wide)
                          if (x, y) in spots or (x, y - 1) in spots]
                up = [("up", y * (wide + 1) + x) for y in range(high) for x in range(wide + 1)
                      if (x, y) in spots or (x - 1, y) in spots]
                self.assertEqual(sides(floor_drawn(shape)), across + up)

    def test_corners_less_sides_and_with_fields_come_to_one(self):
        # So it is for all that hangs together and has no hole.
        for shape in SHAPES:
            with self.subTest(shape=shape):
                floor = floor_drawn(shape)
                self.assertEqual(len(corners(floor)) - len(sides(floor)) + len(floor[2]), 1)

    def test_what_is_told_is_the_askers_own(self):
        floor = floor_of(2, 2, [0, 1, 2])
        told = corners(floor)
        told.append(99)
        told[0] = -1
        also = sides(floor)
        also.reverse()
        also.pop()
        self.assertEqual(corners(floor), [0, 1, 2, 3, 4, 5, 6, 7])
        self.assertEqual(sides(floor), [("across", 0), ("across", 1), ("across", 3), ("across", 4), ("across", 6),
                                        ("up", 0), ("up", 1), ("up", 2), ("up", 3), ("up", 4)])
        self.assertEqual(floor, (2, 2, (0, 1, 2)))


if __name__ == "__main__":
    unittest.main()
