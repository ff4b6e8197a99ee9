import unittest

from crossbrace.errors import Apart, BraceError, Hollow, NoFloor, NoText
from crossbrace.floors import floor_of
from crossbrace.texts import read_plan, show_plan
from samples import SHAPES, floor_drawn, plans

# Each text with the plan that it writes.
WRITTEN = [
    ("o", ((1, 1, (0,)), [], [])),
    ("x", ((1, 1, (0,)), [0], [])),
    ("r", ((1, 1, (0,)), [], [(0, "rising")])),
    ("f", ((1, 1, (0,)), [], [(0, "falling")])),
    ("b", ((1, 1, (0,)), [], [(0, "falling"), (0, "rising")])),
    ("xo.", ((3, 1, (0, 1)), [0], [])),
    ("x/o/.", ((1, 3, (1, 2)), [2], [])),
    ("xrf/b.o", ((3, 2, (0, 2, 3, 4, 5)), [3],
                 [(0, "falling"), (0, "rising"), (4, "rising"), (5, "falling")])),
    ("...../.xb../.f.../.oro.", ((5, 4, (1, 2, 3, 6, 11, 12)), [11],
                                 [(2, "rising"), (6, "falling"), (12, "falling"), (12, "rising")])),
    ("/".join(["xxxxxx"] * 6), ((6, 6, tuple(range(36))), list(range(36)), [])),
]

NO_TEXTS = [
    None, 5, 0, True, False, 1.5, b"o", ["o"], ("o",), {"o": 1}, [], ((1, 1, (0,)), [], []),
    "", "/", "//", "o/", "/o", "o//o", "oo/o", "o/oo", "oo/oo/o", "x/", "./", "ooooooo", "/".join("ooooooo"),
    "O", "X", "R", "0", "1", "-", " ", "o ", " o", "o o", "o\n", "o\n/o\n", "o,o", "o\\o", "o|o", "oy", "\u00f6",
    "ox/o?",
    ".......", "/".join("......."), "/".join(["oooooo"] * 7), "/".join(["ooooooo"] * 6), "show", "o" * 200,
]

NO_FLOORS = [".", "..", "./.", "......", "/".join(["......"] * 6)]
APART = ["o.o", "o/./o", "x.x", ".x/x.", "r./.f", "xx../..bb", "ooo.o/o.o.o/ooo.o"]
HOLLOW = ["ooo/o.o/ooo", "xrf/b.o/oxx", "oooooo/o..o.o/oooooo", "ooo./o.oo/oo.o/.ooo"]

# Each of these is refused by more than one point, the first one in the order of the document told.
BY_THE_FIRST = [("o.y", NoText), ("o.o/o.", NoText), ("ooo/o.o/ooo/", NoText), ("....y", NoText), ("..../...", NoText),
                ("o.o.o.o", NoText), ("ooo/o.o/ooq", NoText), ("ooo.o/o.o../ooo..", Apart)]


class Reading(unittest.TestCase):
    def refuses(self, refusal, text):
        with self.subTest(text=text):
            with self.assertRaises(BraceError) as caught:
                read_plan(text)
            self.assertIs(type(caught.exception), refusal)

    def test_by_hand(self):
        for text, plan in WRITTEN:
            with self.subTest(text=text):
                self.assertEqual(read_plan(text), plan)

    def test_the_kinds_of_what_is_told(self):
        told = read_plan("xrf/b.o")
        self.assertEqual([type(part) for part in told], [tuple, list, list])
        self.assertEqual([type(part) for part in told[0]], [int, int, tuple])
        self.assertEqual({type(rope) for rope in told[2]}, {tuple})
        self.assertEqual(floor_of(*told[0]), told[0])

    def test_what_writes_no_plan(self):
        for text in NO_TEXTS:
            self.refuses(NoText, text)

    def test_what_writes_no_floor(self):
        for refusal, texts in ((NoFloor, NO_FLOORS), (Apart, APART), (Hollow, HOLLOW)):
            for text in texts:
                self.refuses(refusal, text)

    def test_in_the_order_told(self):
        for text, refusal in BY_THE_FIRST:
            self.refuses(refusal, text)


class Showing(unittest.TestCase):
    def test_by_hand(self):
        for text, plan in WRITTEN:
            with self.subTest(text=text):
                self.assertEqual(show_plan(plan), text)

    def test_floors_as_they_are_drawn(self):
        for shape in SHAPES:
            self.assertEqual(show_plan((floor_drawn(shape), [], [])), shape)
            self.assertEqual(read_plan(shape), (floor_drawn(shape), [], []))

    def test_plans_written_and_read_back(self):
        signs = set()
        for plan in plans(6):
            text = show_plan(plan)
            self.assertIs(type(text), str)
            self.assertEqual(read_plan(text), plan)
            self.assertEqual(show_plan(read_plan(text)), text)
            signs |= set(text)
        self.assertEqual(signs, set(".xrfbo/"))


if __name__ == "__main__":
    unittest.main()
