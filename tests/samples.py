"""Floors, braces, ropes and leans to test with, and what checks an answer by its own promise."""

import functools
import unittest

from crossbrace import strips as strips_module
from crossbrace.errors import Apart, Hollow
from crossbrace.floors import floor_of

# Drawn from the highest row to the lowest: "o" a field, "." a place that is none.
SHAPES = [
    "o",
    "oooooo",
    "o/o/o/o/o/o",
    "oo/oo",
    "ooo/ooo",
    "oooooo/oooooo/oooooo/oooooo/oooooo/oooooo",
    ".o/oo",
    "o./oo",
    "oo/.o",
    "oo/o.",
    "o.o/ooo",
    "ooo/o.o",
    "oo/.o/oo",
    "oo/o./oo",
    ".o./ooo/.o.",
    "o.o.o/ooooo/o.o.o",
    "oooo/o..o/o.oo",
    "oooooo/o...../o.oooo/o.o..o/o....o/oooooo",
    "..o/.oo/oo.",
    ".o./.o./.o.",
    "..../.oo./.oo./....",
    "o.oooo/o.o..o/ooo..o/.....o/oooooo/o.....",
]


def drawn(shape):
    rows = shape.split("/")
    wide = len(rows[0])
    high = len(rows)
    spots = []
    for y, row in enumerate(reversed(rows)):
        assert len(row) == wide
        for x, sign in enumerate(row):
            if sign == "o":
                spots.append((x, y))
    return wide, high, spots


def fields_of(shape):
    wide, high, spots = drawn(shape)
    return wide, high, sorted(y * wide + x for x, y in spots)


def floor_drawn(shape):
    wide, high, fields = fields_of(shape)
    return wide, high, tuple(fields)


def all_choices(wide, high):
    """Each choice of places, as a list of rising numbers, the empty one left out."""
    places = wide * high
    for bits in range(1, 2 ** places):
        yield [place for place in range(places) if bits >> place & 1]


def some_choices(wide, high, how_many):
    """Choices of places of all kinds, the same ones at every run."""
    places = wide * high
    state = 12345 + 7 * wide + high
    for _ in range(how_many):
        state = (state * 6364136223846793005 + 1442695040888963407) % 2 ** 64
        bits = state >> 20
        extra = bits >> 3 if state >> 60 & 1 else 0
        chosen = (bits | extra) % 2 ** places
        if chosen:
            yield [place for place in range(places) if chosen >> place & 1]


@functools.lru_cache(maxsize=None)
def strips(floor):
    """As the program tells them, but each floor asked once."""
    return tuple(strips_module.strips(floor))


@functools.lru_cache(maxsize=None)
def crossing(floor, field):
    return strips_module.crossing(floor, field)


class Chance:
    """Numbers without an order to see, the same ones at every run."""

    def __init__(self, seed):
        self.state = 2 * seed + 12345
        self.below(2)

    def below(self, limit):
        self.state = (self.state * 6364136223846793005 + 1442695040888963407) % 2 ** 64
        return (self.state >> 20) % limit

    def between(self, least, most):
        return least + self.below(most - least + 1)


def grown(wide, high, how_many, seed):
    """A floor of so many fields, each put beside one that is there, without a hole at any time."""
    chance = Chance(seed)
    fields = [chance.below(wide * high)]
    while len(fields) < how_many:
        try:
            fields = list(floor_of(wide, high, sorted(set(fields + [chance.below(wide * high)])))[2])
        except (Apart, Hollow):
            pass
    return floor_of(wide, high, fields)


FLOORS = [floor_drawn(shape) for shape in SHAPES] + [
    grown(3, 3, 6, 1), grown(4, 3, 9, 2), grown(5, 5, 14, 3), grown(6, 6, 12, 4), grown(6, 6, 20, 5),
    grown(6, 6, 28, 6), grown(6, 4, 17, 7), grown(2, 6, 9, 8)]
SMALL_FLOORS = [floor for floor in FLOORS if len(floor[2]) <= 9]


def picks(things, how_many, seed):
    """Lists of some of the things, in their order: none of them, all of them, and so many between."""
    chance = Chance(seed)
    found = [[], list(things)]
    for _ in range(how_many):
        share = chance.between(1, 7)
        found.append([thing for thing in things if chance.below(8) < share])
    return found


def all_ropes(fields):
    return [(field, word) for field in fields for word in ("falling", "rising")]


def plans(how_many, seed=1):
    """Floors with braces and with ropes in fields that aren't braced: of both words, one or both in a field."""
    for place, floor in enumerate(FLOORS):
        for turn, braces in enumerate(picks(floor[2], how_many, seed + place)):
            free = all_ropes([field for field in floor[2] if field not in braces])
            for ropes in picks(free, 2, seed + 31 * place + turn):
                yield floor, braces, ropes


def some_leans(floor):
    """Turns alike, unlike, below 0 and of six figures."""
    number = len(strips(floor))
    chance = Chance(number)
    yield [0] * number
    yield [-7] * number
    yield [999999] * number
    yield list(range(number))
    yield [1] + [0] * (number - 1)
    yield [0] * (number - 1) + [-1]
    yield [999999 if k % 2 else -999999 for k in range(number)]
    for size in (1, 1, 3, 50, 999999):
        yield [chance.between(-size, size) for _ in range(number)]


def parts(floor, braces):
    """The strips in groups, joined brace by brace."""
    groups = [{number} for number in range(len(strips(floor)))]
    for field in braces:
        met = [group for group in groups if group & set(crossing(floor, field))]
        groups = [group for group in groups if group not in met] + [set().union(*met)]
    return sorted(sorted(group) for group in groups)


def is_spare(floor, braces, field):
    return len(parts(floor, [other for other in braces if other != field])) == len(parts(floor, braces))


def leads(floor, braces, ropes):
    """From each strip the strips that steps lead to, itself among them, put on until nothing comes to it."""
    pairs = [pair for field in braces for pair in (crossing(floor, field), crossing(floor, field)[::-1])]
    pairs += [crossing(floor, field)[::-1 if word == "rising" else 1] for field, word in ropes]
    reached = [{number} for number in range(len(strips(floor)))]
    grows = True
    while grows:
        grows = False
        for start, end in pairs:
            for group in reached:
                if start in group and end not in group:
                    group.add(end)
                    grows = True
    return reached


def shears(floor, lean, field):
    row, column = crossing(floor, field)
    return lean[row] != lean[column]


class Checks(unittest.TestCase):
    """What shows an answer, checked by its own promise."""

    def check_lean(self, floor, lean):
        self.assertIs(type(lean), list)
        self.assertEqual(len(lean), len(strips(floor)))
        for turn in lean:
            self.assertIs(type(turn), int)
            self.assertLessEqual(abs(turn), 999999)

    def check_leaning(self, floor, braces, lean):
        """A lean that leans and breaks no brace."""
        self.check_lean(floor, lean)
        self.assertGreater(len(set(lean)), 1)
        self.assertEqual([field for field in braces if shears(floor, lean, field)], [])

    def check_way(self, floor, braces, way, start, end):
        self.assertIs(type(way), list)
        self.assertLess(len(way), len(strips(floor)))
        here = start
        for field in way:
            self.assertIn(field, braces)
            self.assertIn(here, crossing(floor, field))
            row, column = crossing(floor, field)
            here = row + column - here
        self.assertEqual(here, end)

    def check_ring(self, floor, braces, ring):
        self.assertIs(type(ring), list)
        self.assertGreaterEqual(len(ring), 4)
        self.assertEqual(len(set(ring)), len(ring))
        self.assertLessEqual(set(ring), set(braces))
        common = []
        for one, other in zip(ring, ring[1:] + ring[:1]):
            shared = set(crossing(floor, one)) & set(crossing(floor, other))
            self.assertEqual(len(shared), 1)
            common.extend(shared)
        self.assertEqual(len(set(common)), len(common))
        words = [strips(floor)[number][0] for number in common]
        self.assertIn(words, [["row", "column"] * (len(ring) // 2), ["column", "row"] * (len(ring) // 2)])

    def check_breaks_alone(self, floor, braces, field, lean):
        self.check_lean(floor, lean)
        self.assertEqual([other for other in braces if shears(floor, lean, other)], [field])

    def check_choice(self, floor, fields):
        self.assertIs(type(fields), list)
        self.assertEqual(fields, sorted(set(fields)))
        self.assertLessEqual(set(fields), set(floor[2]))
        self.assertEqual(len(fields), len(strips(floor)) - 1)
        self.assertEqual(len(parts(floor, fields)), 1)

    def check_breaks_nothing(self, floor, braces, ropes, lean):
        self.check_lean(floor, lean)
        self.assertEqual([field for field in braces if shears(floor, lean, field)], [])
        for field, word in ropes:
            row, column = crossing(floor, field)
            if word == "rising":
                self.assertLessEqual(lean[column] - lean[row], 0)
            else:
                self.assertLessEqual(lean[row] - lean[column], 0)

    def check_run(self, floor, braces, ropes, run, start, end):
        self.assertIs(type(run), list)
        self.assertLess(len(run), len(strips(floor)))
        here = start
        for step in run:
            self.assertIs(type(step), tuple)
            field, word = step
            row, column = crossing(floor, field)
            if word == "brace":
                self.assertIn(field, braces)
                self.assertIn(here, (row, column))
            else:
                self.assertIn(step, ropes)
                self.assertEqual(here, column if word == "rising" else row)
            here = row + column - here
        self.assertEqual(here, end)

    def check_pulls(self, floor, pulls):
        """The form of pulls, and that they are even on each strip."""
        self.assertIs(type(pulls), list)
        self.assertEqual(pulls, sorted(pulls))
        self.assertEqual(len({pull[:2] for pull in pulls}), len(pulls))
        for pull in pulls:
            self.assertIs(type(pull), tuple)
            self.assertIn(pull[0], floor[2])
            self.assertIn(pull[1], ("rising", "falling"))
            self.assertIs(type(pull[2]), int)
        self.assertEqual(sums_on_strips(floor, pulls), [0] * len(strips(floor)))

    def check_taut_pulls(self, floor, braces, ropes, pulls):
        self.check_pulls(floor, pulls)
        for field, word, number in pulls:
            if field in braces:
                self.assertEqual(word, "rising")
            else:
                self.assertIn((field, word), ropes)
                self.assertGreater(number, 0)


def sums_on_strips(floor, pulls):
    total = [0] * len(strips(floor))
    for field, word, number in pulls:
        for strip in crossing(floor, field):
            total[strip] += number if word == "rising" else -number
    return total


def pulled_corners(floor, pulls, forces):
    """What pulls at each corner, in columns and rows, bar by bar and side by side."""
    row = floor[0] + 1
    total = {}
    bars = []
    for field, word, number in pulls:
        x, y = field % floor[0], field // floor[0]
        bars.append(((x, y), (x + 1, y + 1), number) if word == "rising" else ((x + 1, y), (x, y + 1), number))
    for (word, corner), number in forces:
        x, y = corner % row, corner // row
        bars.append(((x, y), (x + 1, y) if word == "across" else (x, y + 1), number))
    for one, other, number in bars:
        for here, there in ((one, other), (other, one)):
            dx, dy = total.get(here, (0, 0))
            total[here] = (dx + number * (there[0] - here[0]), dy + number * (there[1] - here[1]))
    return {y * row + x: pull for (x, y), pull in total.items()}
