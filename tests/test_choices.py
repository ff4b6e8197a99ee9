import itertools
import unittest

from crossbrace.choices import cheaper, cheapest, exchanges, is_choice
from crossbrace.floors import floor_of
from samples import FLOORS, SMALL_FLOORS, Chance, Checks, crossing, parts, picks, strips


def counted_choices(floor):
    number = len(strips(floor)) - 1
    return [list(fields) for fields in itertools.combinations(floor[2], number) if len(parts(floor, fields)) == 1]


def some_prices(floor, seed):
    """Prices alike, rising, falling, below 0, and of twelve figures."""
    number = len(floor[2])
    chance = Chance(seed)
    yield [0] * number
    yield [7] * number
    yield list(range(number))
    yield list(range(number, 0, -1))
    yield [-k for k in range(number)]
    for least, most in ((1, 2), (-3, 3), (-999999999999, 999999999999), (-9, -1), (0, 50)):
        yield [chance.between(least, most) for _ in range(number)]


def choice_by_chance(floor, seed):
    """Fields put in by chance, each that closes no ring."""
    chance = Chance(seed)
    left = list(floor[2])
    fields = []
    while left:
        field = left.pop(chance.below(len(left)))
        if len(parts(floor, fields + [field])) < len(parts(floor, fields)):
            fields.append(field)
    return sorted(fields)


def total(floor, prices, fields):
    return sum(prices[floor[2].index(field)] for field in fields)


def least_total(floor, prices):
    """Grown from the strip 0 on, by the cheapest field that leads out each time."""
    met = {0}
    paid = 0
    while len(met) < len(strips(floor)):
        price, field = min((price, field) for price, field in zip(prices, floor[2])
                           if len(met & set(crossing(floor, field))) == 1)
        paid += price
        met |= set(crossing(floor, field))
    return paid


class IsChoice(Checks):
    def test_by_hand(self):
        floor = floor_of(2, 2, [0, 1, 2, 3])
        for fields in ([0, 1, 2], [0, 1, 3], [0, 2, 3], [1, 2, 3]):
            self.assertIs(is_choice(floor, fields), True)
        for fields in ([], [0], [0, 3], [1, 2], [0, 1, 2, 3]):
            self.assertIs(is_choice(floor, fields), False)
        self.assertIs(is_choice(floor_of(1, 1, [0]), [0]), True)
        self.assertIs(is_choice(floor_of(1, 1, [0]), []), False)
        self.assertIs(is_choice(floor_of(3, 1, [0, 1, 2]), [0, 1, 2]), True)
        self.assertIs(is_choice(floor_of(3, 1, [0, 1, 2]), [0, 2]), False)

    def test_as_many_as_a_choice_has_with_a_ring_among_them(self):
        self.assertIs(is_choice(floor_of(3, 3, list(range(9))), [0, 1, 3, 4, 8]), False)
        self.assertIs(is_choice(floor_of(3, 3, list(range(9))), [0, 1, 3, 5, 8]), True)

    def test_each_list_of_fields_of_small_floors(self):
        for floor in SMALL_FLOORS:
            choices = counted_choices(floor)
            for number in range(len(floor[2]) + 1):
                for fields in itertools.combinations(floor[2], number):
                    self.assertIs(is_choice(floor, list(fields)), list(fields) in choices)

    def test_lists_of_fields_of_larger_floors(self):
        for floor in FLOORS:
            for fields in picks(floor[2], 6, 5):
                wanted = len(parts(floor, fields)) == 1 and len(fields) == len(strips(floor)) - 1
                self.assertIs(is_choice(floor, fields), wanted)
            self.assertIs(is_choice(floor, choice_by_chance(floor, 1)), True)


class Cheapest(Checks):
    def test_by_hand(self):
        floor = floor_of(2, 2, [0, 1, 2, 3])
        self.assertEqual(cheapest(floor, [1, 2, 3, 4]), [0, 1, 2])
        self.assertEqual(cheapest(floor, [9, 2, 3, 4]), [1, 2, 3])
        self.assertEqual(cheapest(floor, [-1, -9, 5, 0]), [0, 1, 3])
        self.assertEqual(cheapest(floor_of(1, 1, [0]), [-5]), [0])
        self.assertEqual(cheapest(floor_of(3, 1, [0, 1, 2]), [5, -2, 999999999999]), [0, 1, 2])

    def test_prices_go_by_the_order_of_fields_not_by_their_numbers(self):
        # Fields 1, 2, 4, 5 of three by two: prices[0] is that of field 1.
        floor = floor_of(3, 2, [1, 2, 4, 5])
        self.assertEqual(cheapest(floor, [9, 1, 1, 1]), [2, 4, 5])
        self.assertEqual(cheapest(floor, [1, 1, 1, 9]), [1, 2, 4])

    def test_none_of_all_choices_of_a_small_floor_costs_less(self):
        for floor in SMALL_FLOORS:
            for prices in some_prices(floor, 3):
                with self.subTest(floor=floor, prices=prices):
                    told = cheapest(floor, prices)
                    self.check_choice(floor, told)
                    least = min(total(floor, prices, choice) for choice in counted_choices(floor))
                    self.assertEqual(total(floor, prices, told), least)

    def test_larger_floors(self):
        for floor in FLOORS:
            for prices in some_prices(floor, 4):
                with self.subTest(floor=floor, prices=prices):
                    told = cheapest(floor, prices)
                    self.check_choice(floor, told)
                    self.assertEqual(total(floor, prices, told), least_total(floor, prices))


class Cheaper(Checks):
    def check_cheaper(self, floor, prices, choice):
        told = cheaper(floor, prices, choice)
        if told is not None:
            self.assertIs(type(told), tuple)
            out, come = told
            self.assertIn(out, choice)
            self.assertIn(come, floor[2])
            self.assertNotIn(come, choice)
            self.assertLess(total(floor, prices, [come]), total(floor, prices, [out]))
            self.check_choice(floor, sorted([field for field in choice if field != out] + [come]))
        self.assertEqual(told is None, total(floor, prices, choice) == least_total(floor, prices))
        return told

    def test_by_hand(self):
        floor = floor_of(2, 2, [0, 1, 2, 3])
        self.assertIsNone(cheaper(floor, [1, 2, 3, 4], [0, 1, 2]))
        self.assertEqual(cheaper(floor, [1, 2, 3, 4], [0, 1, 3]), (3, 2))
        self.assertIsNone(cheaper(floor, [5, 5, 5, 5], [1, 2, 3]))
        self.assertIsNone(cheaper(floor, [-2, -2, -2, -2], [0, 1, 2]))
        self.assertEqual(cheaper(floor, [-2, -2, -1, -2], [0, 1, 2]), (2, 3))
        self.assertIsNone(cheaper(floor_of(1, 1, [0]), [3], [0]))

    def test_each_choice_of_small_floors(self):
        seen = set()
        for floor in SMALL_FLOORS:
            for prices in some_prices(floor, 6):
                for choice in counted_choices(floor):
                    seen.add(self.check_cheaper(floor, prices, choice) is None)
        self.assertEqual(seen, {True, False})

    def test_choices_of_larger_floors(self):
        for place, floor in enumerate(FLOORS):
            for prices in some_prices(floor, 7):
                with self.subTest(floor=floor, prices=prices):
                    self.check_cheaper(floor, prices, choice_by_chance(floor, place))
                    self.assertIsNone(cheaper(floor, prices, cheapest(floor, prices)))

    def test_exchange_by_exchange_it_comes_to_a_cheapest_one(self):
        floor = floor_of(4, 4, list(range(16)))
        for prices in some_prices(floor, 8):
            choice = choice_by_chance(floor, 2)
            told = self.check_cheaper(floor, prices, choice)
            while told is not None:
                choice = sorted([field for field in choice if field != told[0]] + [told[1]])
                told = self.check_cheaper(floor, prices, choice)
            self.assertEqual(total(floor, prices, choice), least_total(floor, prices))


class Exchanges(Checks):
    def check_exchanges(self, floor, one, other):
        told = exchanges(floor, one, other)
        self.assertIs(type(told), list)
        self.assertEqual(sorted(out for out, come in told), sorted(set(one) - set(other)))
        self.assertEqual(sorted(come for out, come in told), sorted(set(other) - set(one)))
        now = list(one)
        for pair in told:
            self.assertIs(type(pair), tuple)
            now = sorted([field for field in now if field != pair[0]] + [pair[1]])
            self.check_choice(floor, now)
        self.assertEqual(now, other)
        return told

    def test_from_a_choice_to_itself(self):
        for floor in FLOORS:
            choice = choice_by_chance(floor, 3)
            self.assertEqual(exchanges(floor, choice, list(choice)), [])

    def test_by_hand(self):
        self.assertEqual(exchanges(floor_of(2, 2, [0, 1, 2, 3]), [0, 1, 2], [0, 2, 3]), [(1, 3)])

    def test_to_one_with_nothing_in_common(self):
        floor = floor_of(4, 4, list(range(16)))
        one = [0, 1, 5, 6, 10, 11, 15]
        other = [2, 3, 4, 7, 8, 9, 12]
        self.check_choice(floor, one)
        self.check_choice(floor, other)
        self.assertEqual(len(self.check_exchanges(floor, one, other)), 7)
        self.assertEqual(len(self.check_exchanges(floor, other, one)), 7)

    def test_to_one_with_nothing_in_common_on_six_by_six(self):
        floor = floor_of(6, 6, list(range(36)))
        one = sorted([7 * k for k in range(6)] + [7 * k + 1 for k in range(5)])
        left = [field for field in range(36) if field not in one]
        other = []
        for field in left:
            if len(parts(floor, other + [field])) < len(parts(floor, other)):
                other.append(field)
        self.assertEqual(len(self.check_exchanges(floor, one, other)), 11)

    def test_between_all_choices_of_small_floors(self):
        for floor in SMALL_FLOORS:
            choices = counted_choices(floor)
            for one in choices[:12]:
                for other in choices[-12:]:
                    self.check_exchanges(floor, one, other)

    def test_between_choices_of_larger_floors(self):
        for floor in FLOORS:
            for seed in range(4):
                one = choice_by_chance(floor, seed)
                other = choice_by_chance(floor, seed + 10)
                with self.subTest(floor=floor, one=one, other=other):
                    self.check_exchanges(floor, one, other)


if __name__ == "__main__":
    unittest.main()
