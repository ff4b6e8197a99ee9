import unittest

from crossbrace.floors import floor_of
from crossbrace.spares import loses, stripped, weighed
from samples import FLOORS, Checks, is_spare, parts, picks


def braced_floors():
    for place, floor in enumerate(FLOORS):
        for braces in picks(floor[2], 6, 100 + place):
            yield floor, braces


class Weighed(Checks):
    def check_weighed(self, floor, braces, field):
        told = weighed(floor, braces, field)
        self.assertIs(type(told), tuple)
        self.assertEqual(len(told), 2)
        if told[0] == "spare":
            self.check_ring(floor, braces, told[1])
            self.assertEqual(told[1][0], field)
        else:
            self.assertEqual(told[0], "needed")
            self.check_breaks_alone(floor, braces, field, told[1])
        return told[0]

    def test_one_place_and_one_row_have_none_to_spare(self):
        self.assertEqual(self.check_weighed(floor_of(1, 1, [0]), [0], 0), "needed")
        floor = floor_of(6, 1, list(range(6)))
        for field in range(6):
            self.assertEqual(self.check_weighed(floor, list(range(6)), field), "needed")

    def test_two_by_two(self):
        floor = floor_of(2, 2, [0, 1, 2, 3])
        for field in range(4):
            self.assertEqual(self.check_weighed(floor, [0, 1, 2, 3], field), "spare")
        for field in (0, 1, 3):
            self.assertEqual(self.check_weighed(floor, [0, 1, 3], field), "needed")
        self.assertIn(weighed(floor, [0, 1, 2, 3], 0), (("spare", [0, 1, 3, 2]), ("spare", [0, 2, 3, 1])))

    def test_a_spare_brace_of_a_floor_that_leans(self):
        floor = floor_of(3, 3, list(range(9)))
        for field in (0, 1, 3, 4):
            self.assertEqual(self.check_weighed(floor, [0, 1, 3, 4, 8], field), "spare")
        self.assertEqual(self.check_weighed(floor, [0, 1, 3, 4, 8], 8), "needed")

    def test_a_ring_of_twelve(self):
        floor = floor_of(6, 6, list(range(36)))
        ring = sorted([7 * k for k in range(6)] + [7 * k + 1 for k in range(5)] + [30])
        for field in ring:
            told = weighed(floor, ring, field)
            self.assertEqual(self.check_weighed(floor, ring, field), "spare")
            self.assertEqual(len(told[1]), 12)

    def test_each_brace_of_many_floors(self):
        seen = []
        for floor, braces in braced_floors():
            for field in braces:
                with self.subTest(floor=floor, braces=braces, field=field):
                    told = self.check_weighed(floor, braces, field)
                    self.assertEqual(told == "spare", is_spare(floor, braces, field))
                    seen.append(told)
        self.assertGreater(seen.count("spare"), 100)
        self.assertGreater(seen.count("needed"), 100)


class Loses(Checks):
    def check_loses(self, floor, braces):
        told = loses(floor, braces)
        self.assertIs(type(told), tuple)
        needed = [field for field in braces if not is_spare(floor, braces, field)]
        if len(parts(floor, braces)) > 1:
            self.assertEqual((told[0], len(told)), ("leans", 2))
            self.check_leaning(floor, braces, told[1])
        elif needed:
            self.assertEqual((told[:2], len(told)), (("needed", needed[0]), 3))
            self.check_breaks_alone(floor, braces, told[1], told[2])
        else:
            self.assertEqual((told[0], len(told)), ("safe", 2))
            self.assertIs(type(told[1]), list)
            self.assertEqual([ring[0] for ring in told[1]], braces)
            for ring in told[1]:
                self.check_ring(floor, braces, ring)
        return told[0]

    def test_two_by_two(self):
        floor = floor_of(2, 2, [0, 1, 2, 3])
        self.assertEqual(self.check_loses(floor, []), "leans")
        self.assertEqual(self.check_loses(floor, [0, 3]), "leans")
        self.assertEqual(self.check_loses(floor, [0, 1, 3]), "needed")
        self.assertEqual(self.check_loses(floor, [0, 1, 2, 3]), "safe")

    def test_one_place_and_one_row(self):
        self.assertEqual(self.check_loses(floor_of(1, 1, [0]), [0]), "needed")
        self.assertEqual(self.check_loses(floor_of(1, 1, [0]), []), "leans")
        self.assertEqual(self.check_loses(floor_of(3, 1, [0, 1, 2]), [0, 1, 2]), "needed")

    def test_a_brace_to_spare_ahead_of_the_first_needed_one(self):
        floor = floor_of(3, 2, list(range(6)))
        told = loses(floor, [0, 1, 3, 4, 5])
        self.assertEqual(told[:2], ("needed", 5))
        self.check_loses(floor, [0, 1, 3, 4, 5])

    def test_whole_floors_with_all_fields_braced_are_safe(self):
        for wide, high in ((2, 2), (2, 5), (4, 3), (6, 6)):
            floor = floor_of(wide, high, list(range(wide * high)))
            self.assertEqual(self.check_loses(floor, list(range(wide * high))), "safe")

    def test_braces_of_many_floors(self):
        seen = set()
        for floor, braces in braced_floors():
            with self.subTest(floor=floor, braces=braces):
                seen.add(self.check_loses(floor, braces))
        self.assertEqual(seen, {"leans", "needed", "safe"})


class Stripped(Checks):
    def expected(self, floor, braces):
        left = list(braces)
        for field in braces[::-1]:
            if is_spare(floor, left, field):
                left.remove(field)
        return left

    def test_the_last_spare_ones_go_first(self):
        floor = floor_of(2, 2, [0, 1, 2, 3])
        self.assertEqual(stripped(floor, [0, 1, 2, 3]), [0, 1, 2])
        self.assertEqual(stripped(floor, [1, 2, 3]), [1, 2, 3])
        self.assertEqual(stripped(floor, [0, 3]), [0, 3])
        self.assertEqual(stripped(floor, []), [])
        self.assertEqual(stripped(floor_of(3, 3, list(range(9))), list(range(9))), [0, 1, 2, 3, 6])
        self.assertEqual(stripped(floor_of(3, 3, list(range(9))), [0, 1, 3, 4, 8]), [0, 1, 3, 8])

    def test_braces_of_many_floors(self):
        for floor, braces in braced_floors():
            with self.subTest(floor=floor, braces=braces):
                told = stripped(floor, braces)
                self.assertIs(type(told), list)
                self.assertEqual(told, self.expected(floor, braces))
                self.assertEqual(parts(floor, told), parts(floor, braces))
                self.assertEqual([field for field in told if is_spare(floor, told, field)], [])
                self.assertEqual([weighed(floor, told, field)[0] for field in told], ["needed"] * len(told))


if __name__ == "__main__":
    unittest.main()
