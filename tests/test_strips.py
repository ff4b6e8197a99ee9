import unittest

from crossbrace.floors import corners_at, floor_of, sides
from crossbrace.strips import crossing, strip_of, strips
from samples import SHAPES, drawn, fields_of, floor_drawn


def lines_of(spots, turned):
    """The runs along rows, or, turned, along columns, each by its spots in order."""
    step = (0, 1) if turned else (1, 0)
    found = []
    for x, y in spots:
        if (x - step[0], y - step[1]) not in spots:
            run = []
            while (x, y) in spots:
                run.append((x, y))
                x, y = x + step[0], y + step[1]
            found.append(run)
    return found


def expected_strips(shape):
    wide, high, spots = drawn(shape)
    found = []
    for word, turned in (("row", False), ("column", True)):
        runs = [tuple(y * wide + x for x, y in run) for run in lines_of(spots, turned)]
        found.extend((word, run) for run in sorted(runs))
    return found


class Strips(unittest.TestCase):
    def test_one_field(self):
        self.assertEqual(strips(floor_of(1, 1, [0])), [("row", (0,)), ("column", (0,))])

    def test_one_row_and_one_column(self):
        self.assertEqual(strips(floor_of(3, 1, [0, 1, 2])),
                         [("row", (0, 1, 2)), ("column", (0,)), ("column", (1,)), ("column", (2,))])
        self.assertEqual(strips(floor_of(1, 3, [0, 1, 2])),
                         [("row", (0,)), ("row", (1,)), ("row", (2,)), ("column", (0, 1, 2))])

    def test_a_whole_floor(self):
        self.assertEqual(strips(floor_of(3, 2, [0, 1, 2, 3, 4, 5])), [
            ("row", (0, 1, 2)), ("row", (3, 4, 5)), ("column", (0, 3)), ("column", (1, 4)), ("column", (2, 5))])

    def test_whole_floors_of_all_sizes(self):
        for wide in range(1, 7):
            for high in range(1, 7):
                with self.subTest(wide=wide, high=high):
                    floor = floor_of(wide, high, list(range(wide * high)))
                    rows = [("row", tuple(range(y * wide, y * wide + wide))) for y in range(high)]
                    columns = [("column", tuple(range(x, wide * high, wide))) for x in range(wide)]
                    self.assertEqual(strips(floor), rows + columns)

    def test_columns_come_by_their_first_field_not_from_left_to_right(self):
        # The lowest left place is missing, so the left column begins above the right one.
        self.assertEqual(strips(floor_drawn("oo/.o")),
                         [("row", (1,)), ("row", (2, 3)), ("column", (1, 3)), ("column", (2,))])
        self.assertEqual(strips(floor_drawn("ooo/..o")), [
            ("row", (2,)), ("row", (3, 4, 5)), ("column", (2, 5)), ("column", (3,)), ("column", (4,))])

    def test_a_row_parted_in_two(self):
        self.assertEqual(strips(floor_drawn("o.o/ooo")), [
            ("row", (0, 1, 2)), ("row", (3,)), ("row", (5,)), ("column", (0, 3)), ("column", (1,)), ("column", (2, 5))])
        self.assertEqual(strips(floor_drawn("ooo/o.o")), [
            ("row", (0,)), ("row", (2,)), ("row", (3, 4, 5)), ("column", (0, 3)), ("column", (2, 5)), ("column", (4,))])

    def test_a_column_parted_in_two(self):
        self.assertEqual(strips(floor_drawn("oo/o./oo")), [
            ("row", (0, 1)), ("row", (2,)), ("row", (4, 5)), ("column", (0, 2, 4)), ("column", (1,)), ("column", (5,))])
        self.assertEqual(strips(floor_drawn("oo/.o/oo")), [
            ("row", (0, 1)), ("row", (3,)), ("row", (4, 5)), ("column", (0,)), ("column", (1, 3, 5)), ("column", (4,))])

    def test_the_end_of_a_row_does_not_go_on_in_the_next(self):
        self.assertEqual(strips(floor_drawn(".o/oo")),
                         [("row", (0, 1)), ("row", (3,)), ("column", (0,)), ("column", (1, 3))])
        self.assertEqual(strips(floor_drawn("oo/.o"))[:2], [("row", (1,)), ("row", (2, 3))])

    def test_each_sample(self):
        for shape in SHAPES:
            with self.subTest(shape=shape):
                self.assertEqual(strips(floor_drawn(shape)), expected_strips(shape))

    def test_the_kinds_of_what_is_told(self):
        told = strips(floor_drawn("oo/o."))
        self.assertIs(type(told), list)
        for strip in told:
            self.assertIs(type(strip), tuple)
            self.assertIs(type(strip[1]), tuple)

    def test_two_strips_have_no_more_than_one_field_in_common(self):
        for shape in SHAPES:
            told = strips(floor_drawn(shape))
            for k, one in enumerate(told):
                for other in told[k + 1:]:
                    with self.subTest(shape=shape, one=one, other=other):
                        self.assertLessEqual(len(set(one[1]) & set(other[1])), 1)

    def test_what_is_told_is_the_askers_own(self):
        floor = floor_of(2, 1, [0, 1])
        told = strips(floor)
        told.reverse()
        told.append(("row", ()))
        self.assertEqual(strips(floor), [("row", (0, 1)), ("column", (0,)), ("column", (1,))])
        self.assertEqual(crossing(floor, 1), (0, 2))
        self.assertEqual(floor, (2, 1, (0, 1)))


class Crossing(unittest.TestCase):
    def test_a_whole_floor(self):
        floor = floor_of(3, 2, [0, 1, 2, 3, 4, 5])
        self.assertEqual([crossing(floor, field) for field in range(6)],
                         [(0, 2), (0, 3), (0, 4), (1, 2), (1, 3), (1, 4)])

    def test_one_row_and_one_column(self):
        self.assertEqual([crossing(floor_of(3, 1, [0, 1, 2]), field) for field in range(3)], [(0, 1), (0, 2), (0, 3)])
        self.assertEqual([crossing(floor_of(1, 3, [0, 1, 2]), field) for field in range(3)], [(0, 3), (1, 3), (2, 3)])

    def test_a_floor_with_places_missing(self):
        wide, high, fields = fields_of("ooo/o.o")
        floor = floor_of(wide, high, fields)
        self.assertEqual([crossing(floor, field) for field in fields], [(0, 3), (1, 4), (2, 3), (2, 5), (2, 4)])

    def test_each_field_lies_in_just_the_two_strips_told(self):
        for shape in SHAPES:
            floor = floor_drawn(shape)
            wanted = expected_strips(shape)
            for field in floor[2]:
                with self.subTest(shape=shape, field=field):
                    told = crossing(floor, field)
                    self.assertIs(type(told), tuple)
                    self.assertEqual([k for k, strip in enumerate(wanted) if field in strip[1]], list(told))
                    self.assertEqual([wanted[k][0] for k in told], ["row", "column"])


class StripOf(unittest.TestCase):
    def test_one_field(self):
        floor = floor_of(1, 1, [0])
        self.assertEqual([strip_of(floor, side) for side in sides(floor)], [1, 1, 0, 0])

    def test_a_whole_floor(self):
        floor = floor_of(2, 2, [0, 1, 2, 3])
        self.assertEqual([(side, strip_of(floor, side)) for side in sides(floor)], [
            (("across", 0), 2), (("across", 1), 3), (("across", 3), 2), (("across", 4), 3), (("across", 6), 2),
            (("across", 7), 3), (("up", 0), 0), (("up", 1), 0), (("up", 2), 0), (("up", 3), 1), (("up", 4), 1),
            (("up", 5), 1)])

    def test_a_row_parted_in_two(self):
        floor = floor_drawn("ooo/o.o")
        self.assertEqual([(side, strip_of(floor, side)) for side in sides(floor)], [
            (("across", 0), 3), (("across", 2), 4), (("across", 4), 3), (("across", 5), 5), (("across", 6), 4),
            (("across", 8), 3), (("across", 9), 5), (("across", 10), 4),
            (("up", 0), 0), (("up", 1), 0), (("up", 2), 1), (("up", 3), 1),
            (("up", 4), 2), (("up", 5), 2), (("up", 6), 2), (("up", 7), 2)])

    def test_outer_sides_do_not_belong_to_the_next_row(self):
        # The right end of the lowest row and the left end of the one above are no neighbours.
        floor = floor_drawn("oo/.o")
        self.assertEqual(strip_of(floor, ("up", 2)), 0)
        self.assertEqual(strip_of(floor, ("up", 3)), 1)

    def test_each_side_of_each_field_of_each_sample(self):
        for shape in SHAPES:
            floor = floor_drawn(shape)
            wanted = expected_strips(shape)
            met = []
            for field in floor[2]:
                lower_left, lower_right, upper_left, upper_right = corners_at(floor, field)
                row, column = [k for k, strip in enumerate(wanted) if field in strip[1]]
                for side, strip in ((("across", lower_left), column), (("across", upper_left), column),
                                    (("up", lower_left), row), (("up", lower_right), row)):
                    with self.subTest(shape=shape, field=field, side=side):
                        self.assertEqual(strip_of(floor, side), strip)
                        met.append(side)
            self.assertEqual(sorted(set(met)), sides(floor))


if __name__ == "__main__":
    unittest.main()
