import itertools
import math
import unittest

from crossbrace.counts import how_many
from crossbrace.floors import floor_of
from samples import FLOORS, floor_drawn, parts, strips


def counted(floor):
    number = len(strips(floor)) - 1
    return sum(len(parts(floor, fields)) == 1 for fields in itertools.combinations(floor[2], number))


class HowMany(unittest.TestCase):
    def test_whole_floors_by_the_product(self):
        for wide in range(1, 7):
            for high in range(1, 7):
                with self.subTest(wide=wide, high=high):
                    told = how_many(floor_of(wide, high, list(range(wide * high))))
                    self.assertIs(type(told), int)
                    self.assertEqual(told, wide ** (high - 1) * high ** (wide - 1))

    def test_by_hand(self):
        self.assertEqual(how_many(floor_of(1, 1, [0])), 1)
        self.assertEqual(how_many(floor_of(6, 1, list(range(6)))), 1)
        self.assertEqual(how_many(floor_of(2, 2, [0, 1, 2, 3])), 4)
        self.assertEqual(how_many(floor_of(2, 2, [0, 1, 2])), 1)
        self.assertEqual(how_many(floor_of(6, 6, list(range(36)))), 60466176)
        # Two squares of four side by side in a chain: each is chosen for itself.
        self.assertEqual(how_many(floor_drawn("oo../oooo/..oo")), 4 * 4)

    def test_small_floors_one_by_one(self):
        seen = set()
        for floor in FLOORS + [floor_drawn("ooo./oooo/.ooo"), floor_drawn("oo.oo/ooooo/oo.oo")]:
            if math.comb(len(floor[2]), len(strips(floor)) - 1) <= 20000:
                with self.subTest(floor=floor):
                    told = how_many(floor)
                    self.assertEqual(told, counted(floor))
                    seen.add(told)
        self.assertGreater(len(seen), 6)


if __name__ == "__main__":
    unittest.main()
