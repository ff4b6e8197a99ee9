import unittest

from crossbrace.floors import corners, floor_of, sides
from crossbrace.forces import at_rest, pulls_at, restless
from crossbrace.spares import weighed
from samples import (FLOORS, Chance, Checks, all_ropes, floor_drawn, is_spare, picks, pulled_corners, strips,
                     sums_on_strips)


def any_pulls(floor, seed):
    """Pulls that are even by luck alone: of numbers below 0, 0, and of six figures."""
    chance = Chance(seed)
    for bars in picks(all_ropes(floor[2]), 3, seed):
        for size in (1, 9, 999999):
            yield [(field, word, chance.between(-size, size)) for field, word in bars]


def even_pulls(floor, seed):
    """Both bars of a field pulled alike, and rings of rising or pushing falling bars, added up."""
    chance = Chance(seed)
    for size in (1, 9, 999999):
        total = {}
        for field in floor[2]:
            weight = weighed(floor, list(floor[2]), field)
            ring = weight[1] if weight[0] == "spare" and chance.below(2) else []
            by = chance.between(-size, size)
            for k, other in enumerate(ring):
                number = by if k % 2 else -by
                bar, number = ((other, "rising"), number) if chance.below(2) else ((other, "falling"), -number)
                total[bar] = total.get(bar, 0) + number
            if chance.below(2):
                by = chance.between(-size, size)
                for word in ("rising", "falling"):
                    total[(field, word)] = total.get((field, word), 0) + by
        yield sorted((field, word, number) for (field, word), number in total.items())
    yield []
    yield [(floor[2][0], "rising", 0)]


class Restless(unittest.TestCase):
    def forces(self, floor, numbers):
        return list(zip(sides(floor), numbers))

    def test_one_place(self):
        floor = floor_of(1, 1, [0])
        both = [(0, "falling", 1), (0, "rising", 1)]
        self.assertIsNone(restless(floor, both, self.forces(floor, [-1, -1, -1, -1])))
        self.assertIsNone(restless(floor, [], self.forces(floor, [0, 0, 0, 0])))
        self.assertIsNone(restless(floor, [(0, "rising", 0)], self.forces(floor, [0, 0, 0, 0])))
        self.assertEqual(restless(floor, both, self.forces(floor, [0, 0, 0, 0])), 0)
        self.assertEqual(restless(floor, both, self.forces(floor, [1, 1, 1, 1])), 0)
        self.assertEqual(restless(floor, both, self.forces(floor, [-1, 0, -1, -1])), 2)
        self.assertEqual(restless(floor, both, self.forces(floor, [-1, -1, -1, 5])), 1)
        self.assertEqual(restless(floor, [(0, "rising", 3)], self.forces(floor, [0, 0, 0, 0])), 0)
        self.assertEqual(restless(floor, [(0, "falling", 3)], self.forces(floor, [0, 0, 0, 0])), 1)
        self.assertEqual(restless(floor, [(0, "rising", 3)], self.forces(floor, [-3, 0, -3, 0])), 1)

    def test_the_first_corner_by_all_that_pulls(self):
        seen = set()
        for place, floor in enumerate(FLOORS):
            chance = Chance(place)
            for pulls in any_pulls(floor, place):
                for size in (0, 1, 999999):
                    forces = [(side, chance.between(-size, size)) for side in sides(floor)]
                    total = pulled_corners(floor, pulls, forces)
                    wanted = [corner for corner in corners(floor) if total.get(corner, (0, 0)) != (0, 0)]
                    told = restless(floor, pulls, forces)
                    self.assertEqual(told, wanted[0] if wanted else None)
                    seen.add(told)
        self.assertIn(None, seen)
        self.assertGreater(len(seen), 8)


class AtRest(Checks):
    def check_at_rest(self, floor, pulls):
        told = at_rest(floor, pulls)
        self.assertIs(type(told), tuple)
        self.assertEqual(len(told), 2)
        uneven = [strip for strip, total in enumerate(sums_on_strips(floor, pulls)) if total]
        if uneven:
            self.assertEqual(told, ("uneven", uneven[0]))
            return told
        self.assertEqual(told[0], "rest")
        self.assertIs(type(told[1]), list)
        self.assertEqual({type(force) for force in told[1]}, {tuple})
        self.assertEqual([side for side, number in told[1]], sides(floor))
        self.assertEqual(set(pulled_corners(floor, pulls, told[1]).values()), {(0, 0)})
        self.assertIsNone(restless(floor, pulls, told[1]))
        return told

    def test_one_place(self):
        floor = floor_of(1, 1, [0])
        both = [(0, "falling", 7), (0, "rising", 7)]
        self.assertEqual(at_rest(floor, both), ("rest", [(side, -7) for side in sides(floor)]))
        self.assertEqual(at_rest(floor, []), ("rest", [(side, 0) for side in sides(floor)]))
        self.assertEqual(at_rest(floor, [(0, "rising", 1)]), ("uneven", 0))
        self.assertEqual(at_rest(floor, [(0, "falling", 7), (0, "rising", -7)]), ("uneven", 0))

    def test_the_ring_of_two_by_two(self):
        floor = floor_of(2, 2, [0, 1, 2, 3])
        pulls = [(0, "rising", 1), (1, "rising", -1), (2, "rising", -1), (3, "rising", 1)]
        self.assertEqual(at_rest(floor, pulls), ("rest", [
            (("across", 0), -1), (("across", 1), 0), (("across", 3), 1), (("across", 4), 1), (("across", 6), 0),
            (("across", 7), -1), (("up", 0), -1), (("up", 1), 1), (("up", 2), 0), (("up", 3), 0), (("up", 4), 1),
            (("up", 5), -1)]))

    def test_the_first_uneven_strip(self):
        floor = floor_of(3, 3, list(range(9)))
        self.assertEqual(at_rest(floor, [(4, "rising", 1)]), ("uneven", 1))
        self.assertEqual(at_rest(floor, [(3, "rising", 1), (4, "rising", -1)]), ("uneven", 3))
        self.assertEqual(at_rest(floor, [(1, "falling", 2), (1, "rising", 2), (8, "falling", -1)]), ("uneven", 2))
        self.assertEqual(at_rest(floor, [(1, "rising", 5), (4, "falling", 5)]), ("uneven", 0))
        self.assertEqual(at_rest(floor, [(0, "rising", 5), (3, "falling", -5), (6, "rising", -10)])[1], 0)

    def test_pulls_of_all_kinds(self):
        seen = []
        for place, floor in enumerate(FLOORS):
            for pulls in list(any_pulls(floor, place)) + list(even_pulls(floor, place)):
                with self.subTest(floor=floor, pulls=pulls):
                    seen.append(self.check_at_rest(floor, pulls)[0])
        self.assertGreater(seen.count("rest"), 100)
        self.assertGreater(seen.count("uneven"), 100)

    def test_no_other_forces_rest(self):
        for shape in ("oo/oo", "oo/.o", "ooo/o.o"):
            floor = floor_drawn(shape)
            for pulls in even_pulls(floor, 5):
                forces = at_rest(floor, pulls)[1]
                for k, (side, number) in enumerate(forces):
                    for other in (number - 1, number + 1, number + 999999):
                        changed = forces[:k] + [(side, other)] + forces[k + 1:]
                        self.assertIsNotNone(restless(floor, pulls, changed))


class PullsAt(Checks):
    def check_pulls_at(self, floor, braces, field):
        told = pulls_at(floor, braces, field)
        self.assertEqual(told is not None, is_spare(floor, braces, field))
        if told is None:
            return
        self.check_pulls(floor, told)
        self.assertIn(field, [pull[0] for pull in told])
        for other, word, number in told:
            self.assertIn(other, braces)
            self.assertEqual(word, "rising")
            self.assertNotEqual(number, 0)
            self.assertLessEqual(abs(number), 999999)
        verdict = at_rest(floor, told)
        self.assertEqual(verdict[0], "rest")
        self.assertEqual(set(pulled_corners(floor, told, verdict[1]).values()), {(0, 0)})

    def test_by_hand(self):
        floor = floor_of(2, 2, [0, 1, 2, 3])
        for field in range(4):
            self.check_pulls_at(floor, [0, 1, 2, 3], field)
        self.assertIsNone(pulls_at(floor, [0, 1, 2], 1))
        self.assertIsNone(pulls_at(floor_of(1, 1, [0]), [0], 0))
        self.assertIsNone(pulls_at(floor_of(3, 1, [0, 1, 2]), [0, 1, 2], 1))
        self.assertIsNone(pulls_at(floor_of(3, 3, list(range(9))), [0, 1, 3, 4, 8], 8))
        self.check_pulls_at(floor_of(3, 3, list(range(9))), [0, 1, 3, 4, 8], 4)

    def test_each_brace_of_many_floors(self):
        seen = []
        for place, floor in enumerate(FLOORS):
            for braces in picks(floor[2], 4, 40 + place):
                for field in braces:
                    with self.subTest(floor=floor, braces=braces, field=field):
                        self.check_pulls_at(floor, braces, field)
                        seen.append(pulls_at(floor, braces, field) is None)
        self.assertGreater(seen.count(True), 50)
        self.assertGreater(seen.count(False), 50)

    def test_a_spare_brace_is_just_one_in_which_forces_can_run(self):
        for place, floor in enumerate(FLOORS):
            for braces in picks(floor[2], 2, 60 + place):
                for field in braces:
                    self.assertEqual(weighed(floor, braces, field)[0] == "spare",
                                     pulls_at(floor, braces, field) is not None)


if __name__ == "__main__":
    unittest.main()
