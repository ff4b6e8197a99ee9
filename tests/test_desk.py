import unittest

from crossbrace.counts import how_many
from crossbrace.desk import Desk
from crossbrace.errors import BraceError, NoDeed, NoField, NoRow
from crossbrace.ropes import hung
from crossbrace.spares import weighed
from crossbrace.taut import tautness
from crossbrace.texts import read_plan, show_plan
from crossbrace.ways import held, lacking, pieces
from samples import Checks, parts, plans, strips
from test_texts import APART, BY_THE_FIRST, HOLLOW, NO_FLOORS, NO_TEXTS, WRITTEN

#     3 4 5      x r f
#     0 . 2      b . o
TEXT = "xrf/b.o"

ROWS = ["show", "stiff", "held", "lacking", "strips", "pieces", "count", "brace 2", "clear 3", "weigh 3",
        "rope 2 rising", "rope 2 falling", "taut 0 rising", "taut 0 falling", "taut 4 rising", "taut 5 falling", "rope 4 falling"]

NO_TEXT_ROWS = [None, 5, True, b"show", ["show"], ("brace", 2), {"show": 1}, 1.5, [], object()]

# Another first word, too few or too many words, blanks too many, fields and words that aren't so written.
NO_ROWS = [
    "", " ", "  ", "shown", "Show", "SHOW", "sho", "ok", "2", "2 brace", "rising", "help", "spare 3", "hang 2 rising",
    "show 2", "stiff 2", "held 0", "lacking 1", "strips 1", "pieces now", "count 1", "show show", "show rising",
    "brace", "clear", "weigh", "rope", "taut", "rope 2", "taut 0", "rope rising", "taut rising",
    "brace 2 rising", "clear 3 3", "weigh 3 rising", "rope 2 rising falling", "taut 0 rising now", "brace 2 3",
    "show ", " show", "stiff  ", "brace  2", "brace 2 ", " brace 2", "rope 2  rising", "rope  2 rising",
    "rope 2 rising ",
    "brace ", "clear ", "weigh ", "rope  rising", "rope 2 ", "taut 0 ", "brace\t2", "brace 2\n", "show\n", "\tshow",
    "brace\n2", "show\r", "brace\u00a02",
    "brace 02", "brace 00", "brace 002", "clear 03", "weigh 03", "rope 02 rising", "taut 00 rising", "brace 2.0",
    "brace +2", "brace -2", "brace -0", "brace 2,", "brace two", "brace x", "brace 0x2", "brace 1_0", "brace 2a",
    "brace \u0662", "brace \u00b2", "brace \uff12", "brace 100", "brace 123", "brace 999999999999", "weigh 100",
    "rope 100 rising", "rope rising 2", "rope 2 Rising", "rope 2 up", "rope 2 brace", "rope 2 risin", "taut 0 slack",
    "taut 0 both", "rope 2 rising\n",
]

NO_FIELDS = ["brace 1", "brace 6", "brace 99", "brace 36", "clear 1", "clear 10", "weigh 1", "weigh 6", "rope 1 rising",
             "rope 6 falling", "taut 1 rising", "taut 77 falling"]

# To brace what is braced or roped, to hang where it is braced or hangs, to clear nothing, to weigh what isn't braced,
# to ask of a rope that isn't there.
NO_DEEDS = ["brace 3", "brace 4", "brace 5", "brace 0", "rope 3 rising", "rope 3 falling", "rope 4 rising",
            "rope 5 falling", "rope 0 rising", "rope 0 falling", "clear 2", "weigh 2", "weigh 4", "weigh 0",
            "taut 4 falling", "taut 5 rising", "taut 2 rising", "taut 2 falling", "taut 3 rising", "taut 3 falling"]

# Each refused by more than one point: NoRow ahead of NoField, NoField ahead of NoDeed.
BOTH = [("brace 1 rising", NoRow), ("rope 1 up", NoRow), ("rope 99 brace", NoRow), ("clear 01", NoRow),
        ("rope 3 up", NoRow), ("weigh 02", NoRow), ("taut 2 neither", NoRow), ("brace 03", NoRow), ("clear 2 2", NoRow),
        ("weigh 1", NoField), ("taut 1 rising", NoField), ("clear 1", NoField)]


class Refusing(unittest.TestCase):
    def refuses(self, desk, refusal, row):
        with self.subTest(row=row):
            before = [desk.say(question) for question in ROWS[:7]]
            with self.assertRaises(BraceError) as caught:
                desk.say(row)
            self.assertIs(type(caught.exception), refusal)
            self.assertEqual([desk.say(question) for question in ROWS[:7]], before)

    def test_a_desk_is_refused_as_reading_is(self):
        refused = NO_TEXTS + NO_FLOORS + APART + HOLLOW + [text for text, refusal in BY_THE_FIRST]
        for text in refused:
            with self.subTest(text=text):
                with self.assertRaises(BraceError) as wanted:
                    read_plan(text)
                with self.assertRaises(BraceError) as caught:
                    Desk(text)
                self.assertIs(type(caught.exception), type(wanted.exception))

    def test_each_refusal(self):
        desk = Desk(TEXT)
        for refusal, rows in ((NoRow, NO_TEXT_ROWS + NO_ROWS), (NoField, NO_FIELDS), (NoDeed, NO_DEEDS)):
            for row in rows:
                self.refuses(desk, refusal, row)
        self.assertEqual(desk.say("show"), TEXT)

    def test_in_the_order_told(self):
        desk = Desk(TEXT)
        for row, refusal in BOTH:
            self.refuses(desk, refusal, row)

    def test_refusals_on_one_place(self):
        desk = Desk("x")
        self.refuses(desk, NoDeed, "brace 0")
        self.refuses(desk, NoField, "brace 1")
        self.refuses(desk, NoRow, "brace 00")
        self.assertEqual(desk.say("clear 0"), "ok")
        self.refuses(desk, NoDeed, "clear 0")
        self.refuses(desk, NoDeed, "weigh 0")
        self.assertEqual(desk.say("rope 0 rising"), "ok")
        self.refuses(desk, NoDeed, "rope 0 rising")
        self.refuses(desk, NoDeed, "brace 0")
        self.refuses(desk, NoDeed, "taut 0 falling")


class Working(unittest.TestCase):
    def test_one_place(self):
        desk = Desk("o")
        self.assertEqual([desk.say(row) for row in ("show", "stiff", "held", "lacking", "strips", "pieces", "count")],
                         ["o", "no", "none", "0", "2", "2", "1"])
        self.assertEqual(desk.say("brace 0"), "ok")
        self.assertEqual([desk.say(row) for row in ("show", "stiff", "held", "lacking", "pieces", "weigh 0")],
                         ["x", "yes", "0", "none", "1", "needed"])
        self.assertEqual([desk.say("clear 0"), desk.say("rope 0 rising"), desk.say("show"), desk.say("taut 0 rising")],
                         ["ok", "ok", "r", "slack"])
        self.assertEqual([desk.say("stiff"), desk.say("rope 0 falling"), desk.say("show"), desk.say("taut 0 falling")],
                         ["no", "ok", "b", "taut"])
        # By the braces alone nothing is held.
        self.assertEqual([desk.say(row) for row in ("stiff", "held", "lacking", "pieces", "taut 0 rising")],
                         ["yes", "none", "0", "2", "taut"])
        self.assertEqual([desk.say("clear 0"), desk.say("show")], ["ok", "o"])

    def test_a_row_with_answers_of_several_fields(self):
        desk = Desk("oo/oo")
        self.assertEqual(desk.say("count"), "4")
        self.assertEqual(len(desk.say("lacking").split(" ")), 3)
        for field in (0, 1, 2):
            self.assertEqual(desk.say("brace " + str(field)), "ok")
        self.assertEqual([desk.say("held"), desk.say("lacking"), desk.say("stiff"), desk.say("weigh 1")],
                         ["0 1 2 3", "none", "yes", "needed"])
        self.assertEqual(desk.say("brace 3"), "ok")
        self.assertIn(desk.say("weigh 1"), ("spare 1 0 2 3", "spare 1 3 2 0"))
        self.assertEqual([desk.say("clear 2"), desk.say("clear 1"), desk.say("held"), desk.say("pieces")],
                         ["ok", "ok", "0 3", "2"])
        self.assertEqual([desk.say("show"), desk.say("rope 1 falling"), desk.say("show")], ["ox/xo", "ok", "ox/xf"])
        self.assertEqual([desk.say("stiff"), desk.say("taut 1 falling")], ["no", "slack"])
        self.assertEqual([desk.say("rope 2 falling"), desk.say("stiff"), desk.say("taut 1 falling")],
                         ["ok", "yes", "taut"])

    def test_fields_of_two_figures(self):
        desk = Desk("/".join(["oooooo"] * 6))
        self.assertEqual([desk.say("brace 35"), desk.say("brace 10"), desk.say("rope 20 falling"), desk.say("held")],
                         ["ok", "ok", "ok", "10 35"])
        self.assertEqual(desk.say("show"), "ooooox/oooooo/oofooo/oooooo/ooooxo/oooooo")
        self.assertEqual(desk.say("clear 35"), "ok")
        self.assertEqual(desk.say("held"), "10")
        self.assertEqual([desk.say("count"), desk.say("strips"), desk.say("pieces")], ["60466176", "12", "11"])

    def test_clearing_takes_out_both_ropes(self):
        desk = Desk(TEXT)
        self.assertEqual([desk.say("clear 0"), desk.say("show")], ["ok", "xrf/o.o"])
        self.assertEqual([desk.say("clear 3"), desk.say("show")], ["ok", "orf/o.o"])
        self.assertEqual([desk.say("clear 5"), desk.say("show")], ["ok", "oro/o.o"])
        self.assertEqual([desk.say("clear 4"), desk.say("show")], ["ok", "ooo/o.o"])

    def test_ropes_come_in_order_however_they_are_hung(self):
        desk = Desk("ooo/o.o")
        for row in ("rope 5 falling", "rope 0 rising", "brace 3", "rope 4 rising", "rope 0 falling"):
            self.assertEqual(desk.say(row), "ok")
        self.assertEqual(desk.say("show"), TEXT)

    def test_two_desks_of_one_text(self):
        one = Desk(TEXT)
        other = Desk(TEXT)
        for row in ("clear 0", "brace 0", "clear 4", "rope 2 falling"):
            self.assertEqual(one.say(row), "ok")
        self.assertEqual([one.say("show"), other.say("show")], ["xof/x.f", TEXT])
        self.assertEqual(other.say("clear 3"), "ok")
        self.assertEqual([one.say("show"), other.say("show")], ["xof/x.f", "orf/b.o"])
        self.assertEqual(Desk(TEXT).say("show"), TEXT)

    def test_the_texts_that_are_written(self):
        for text, plan in WRITTEN:
            self.assertEqual(Desk(text).say("show"), text)


class Asking(Checks):
    def check_lists(self, desk, floor, braces):
        self.assertEqual(desk.say("held"), " ".join(map(str, held(floor, braces))) or "none")
        told = desk.say("lacking")
        fields = [] if told == "none" else [int(word) for word in told.split(" ")]
        self.assertEqual(len(fields), len(parts(floor, braces)) - 1)
        self.assertEqual(len(parts(floor, braces + fields)), 1)
        self.assertEqual(len(fields), len(lacking(floor, braces)))

    def check_weigh(self, desk, floor, braces, field):
        told = desk.say(f"weigh {field}").split(" ")
        self.assertEqual(told[0], weighed(floor, braces, field)[0])
        if told[0] == "needed":
            self.assertEqual(told, ["needed"])
        else:
            self.check_ring(floor, braces, [int(word) for word in told[1:]])
            self.assertEqual(told[1], str(field))

    def test_many_plans(self):
        for floor, braces, ropes in plans(1, 41):
            desk = Desk(show_plan((floor, braces, ropes)))
            with self.subTest(text=desk.say("show")):
                self.assertEqual(desk.say("stiff"), "yes" if hung(floor, braces, ropes)[0] == "stiff" else "no")
                self.assertEqual(desk.say("strips"), str(len(strips(floor))))
                self.assertEqual(desk.say("pieces"), str(len(pieces(floor, braces))))
                self.assertEqual(desk.say("count"), str(how_many(floor)))
                self.check_lists(desk, floor, braces)
                for field in braces[::3]:
                    self.check_weigh(desk, floor, braces, field)
                for rope in ropes[::5]:
                    self.assertEqual(desk.say("taut " + str(rope[0]) + " " + rope[1]),
                                     tautness(floor, braces, ropes, rope)[0])

    def test_plans_built_row_by_row(self):
        for floor, braces, ropes in plans(1, 43):
            desk = Desk(show_plan((floor, [], [])))
            for field in braces[::-1]:
                self.assertEqual(desk.say(f"brace {field}"), "ok")
            for field, word in ropes[::-1]:
                self.assertEqual(desk.say(f"rope {field} {word}"), "ok")
            self.assertEqual(desk.say("show"), show_plan((floor, braces, ropes)))
            self.assertEqual(desk.say("stiff") == "yes", hung(floor, braces, ropes)[0] == "stiff")
            for field in sorted(set(braces + [field for field, word in ropes])):
                self.assertEqual(desk.say(f"clear {field}"), "ok")
            self.assertEqual(desk.say("show"), show_plan((floor, [], [])))

    def test_each_row_answers_with_a_text(self):
        for row in ROWS:
            self.assertIs(type(Desk(TEXT).say(row)), str)

    def test_asking_changes_nothing(self):
        desk = Desk(TEXT)
        for row in ROWS[:7] + ["weigh 3", "taut 0 rising", "taut 4 rising"]:
            told = desk.say(row)
            self.assertEqual(desk.say(row), told)
            self.assertEqual(desk.say("show"), TEXT)


if __name__ == "__main__":
    unittest.main()
