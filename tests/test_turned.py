import unittest

from crossbrace.counts import how_many
from crossbrace.floors import floor_of
from crossbrace.ropes import hung
from crossbrace.spares import weighed
from crossbrace.taut import tautness
from crossbrace.turned import (mirrored, mirrored_field, mirrored_ropes, quarter, quarter_field, quarter_ropes,
                               swapped)
from crossbrace.ways import held, judged, pieces
from samples import FLOORS, SHAPES, Chance, all_ropes, floor_drawn, picks, plans

WAYS_ABOUT = [(quarter, quarter_field, quarter_ropes), (mirrored, mirrored_field, mirrored_ropes)]


def turned_shape(shape):
    """The drawing turned by a quarter to the left: its last column comes to be its highest row."""
    rows = shape.split("/")
    return "/".join("".join(row[x] for row in rows) for x in range(len(rows[0]) - 1, -1, -1))


def mirrored_shape(shape):
    return "/".join(row[::-1] for row in shape.split("/"))


class Turned(unittest.TestCase):
    def test_by_hand(self):
        # 3 4 5      5 2      5 4 3
        # 0 . 2      4 .      2 . 0
        #            3 0
        floor = floor_of(3, 2, [0, 2, 3, 4, 5])
        self.assertEqual(quarter(floor), (2, 3, (0, 1, 2, 4, 5)))
        self.assertEqual([quarter_field(floor, field) for field in floor[2]], [1, 5, 0, 2, 4])
        self.assertEqual(mirrored(floor), (3, 2, (0, 2, 3, 4, 5)))
        self.assertEqual([mirrored_field(floor, field) for field in floor[2]], [2, 0, 5, 4, 3])
        ropes = [(0, "rising"), (2, "falling"), (4, "falling"), (4, "rising")]
        self.assertEqual(quarter_ropes(floor, ropes), [(1, "falling"), (2, "falling"), (2, "rising"), (5, "rising")])
        self.assertEqual(mirrored_ropes(floor, ropes), [(0, "rising"), (2, "falling"), (4, "falling"), (4, "rising")])
        self.assertEqual(quarter_ropes(floor, []), [])
        self.assertEqual(mirrored_ropes(floor, []), [])

    def test_floors_as_they_are_drawn(self):
        for shape in SHAPES:
            with self.subTest(shape=shape):
                floor = floor_drawn(shape)
                self.assertEqual(quarter(floor), floor_drawn(turned_shape(shape)))
                self.assertEqual(mirrored(floor), floor_drawn(mirrored_shape(shape)))

    def test_fields_as_they_are_drawn(self):
        for floor in FLOORS:
            wide, high, fields = floor
            for field in fields:
                x, y = field % wide, field // wide
                self.assertEqual(quarter_field(floor, field), x * high + (high - 1 - y))
                self.assertEqual(mirrored_field(floor, field), y * wide + (wide - 1 - x))

    def test_what_is_told_is_a_floor(self):
        for floor in FLOORS:
            for about in (quarter, mirrored):
                told = about(floor)
                self.assertIs(type(told), tuple)
                self.assertIs(type(told[2]), tuple)
                self.assertEqual(floor_of(*told), told)

    def check_times(self, times, about, about_field, about_ropes):
        for floor in FLOORS:
            now = floor
            fields = list(floor[2])
            ropes = all_ropes(floor[2])[::3]
            for turn in range(times):
                ropes = about_ropes(now, ropes)
                fields = [about_field(now, field) for field in fields]
                now = about(now)
                self.assertEqual(sorted(fields), list(now[2]))
                self.assertEqual(ropes, sorted(ropes))
            self.assertEqual((now, fields, ropes), (floor, list(floor[2]), all_ropes(floor[2])[::3]))

    def test_four_quarters_come_to_nothing(self):
        self.check_times(4, quarter, quarter_field, quarter_ropes)

    def test_mirrored_twice_comes_to_nothing(self):
        self.check_times(2, mirrored, mirrored_field, mirrored_ropes)

    def test_ropes_change_their_words(self):
        for floor in FLOORS:
            for about, about_field, about_ropes in WAYS_ABOUT:
                for field in floor[2]:
                    self.assertEqual(about_ropes(floor, [(field, "rising")]), [(about_field(floor, field), "falling")])
                    self.assertEqual(about_ropes(floor, [(field, "falling")]), [(about_field(floor, field), "rising")])


class WhatStays(unittest.TestCase):
    def test_there_are_as_many_choices(self):
        for floor in FLOORS:
            self.assertEqual(how_many(quarter(floor)), how_many(floor))
            self.assertEqual(how_many(mirrored(floor)), how_many(floor))

    def test_stiff_held_spare_and_needed(self):
        for place, floor in enumerate(FLOORS):
            for braces in picks(floor[2], 3, 80 + place):
                for about, about_field, about_ropes in WAYS_ABOUT:
                    new = about(floor)
                    put = sorted(about_field(floor, field) for field in braces)
                    self.assertEqual(judged(new, put)[0], judged(floor, braces)[0])
                    self.assertEqual(held(new, put), sorted(about_field(floor, field) for field in held(floor, braces)))
                    for field in braces[::2]:
                        self.assertEqual(weighed(new, put, about_field(floor, field))[0],
                                         weighed(floor, braces, field)[0])

    def test_stiff_by_ropes_taut_and_slack(self):
        for floor, braces, ropes in plans(2, 33):
            for about, about_field, about_ropes in WAYS_ABOUT:
                new = about(floor)
                put = sorted(about_field(floor, field) for field in braces)
                hanging = about_ropes(floor, ropes)
                self.assertEqual(hung(new, put, hanging)[0], hung(floor, braces, ropes)[0])
                for rope in ropes[::6]:
                    self.assertEqual(tautness(new, put, hanging, about_ropes(floor, [rope])[0])[0],
                                     tautness(floor, braces, ropes, rope)[0])


class Swapped(unittest.TestCase):
    def shuffled(self, number, chance):
        left = list(range(number))
        return [left.pop(chance.below(len(left))) for _ in range(number)]

    def test_by_hand(self):
        self.assertEqual(swapped(3, 2, [0, 1, 2], [0, 1], [0, 1, 5]), [0, 1, 5])
        self.assertEqual(swapped(3, 2, [2, 0, 1], [0, 1], [0, 1, 5]), [0, 2, 4])
        self.assertEqual(swapped(3, 2, [0, 1, 2], [1, 0], [0, 1, 5]), [2, 3, 4])
        self.assertEqual(swapped(3, 2, [2, 0, 1], [1, 0], [0, 1, 5]), [1, 3, 5])
        self.assertEqual(swapped(1, 1, [0], [0], [0]), [0])
        self.assertEqual(swapped(6, 6, list(range(6)), list(range(6)), []), [])

    def test_what_stays(self):
        chance = Chance(3)
        for wide in range(1, 7):
            for high in range(1, 7):
                floor = floor_of(wide, high, list(range(wide * high)))
                for braces in picks(floor[2], 2, 10 * wide + high):
                    columns = self.shuffled(wide, chance)
                    rows = self.shuffled(high, chance)
                    with self.subTest(wide=wide, high=high, columns=columns, rows=rows, braces=braces):
                        told = swapped(wide, high, columns, rows, braces)
                        self.assertIs(type(told), list)
                        self.assertEqual(told, sorted(told))
                        self.assertEqual({(columns[field % wide], rows[field // wide]) for field in braces},
                                         {(field % wide, field // wide) for field in told})
                        self.assertEqual(judged(floor, told)[0], judged(floor, braces)[0])
                        self.assertEqual(len(pieces(floor, told)), len(pieces(floor, braces)))
                        for field in braces[::3]:
                            there = swapped(wide, high, columns, rows, [field])[0]
                            self.assertEqual(weighed(floor, told, there)[0], weighed(floor, braces, field)[0])
                        self.assertEqual(swapped(wide, high, columns, rows, list(floor[2])), list(floor[2]))


if __name__ == "__main__":
    unittest.main()
