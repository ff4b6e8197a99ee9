"""The desk: a plan that is worked on, told rows of words."""

from crossbrace.counts import how_many
from crossbrace.errors import NoDeed, NoField, NoRow
from crossbrace.ropes import hung
from crossbrace.spares import weighed, without
from crossbrace.strips import strips
from crossbrace.taut import tautness
from crossbrace.texts import read_plan, show_plan
from crossbrace.ways import held, lacking, pieces

# How many words a row has, its first word among them: a field's number comes second, a rope's word third.
LENGTHS = {
    "show": 1, "stiff": 1, "held": 1, "lacking": 1, "strips": 1, "pieces": 1, "count": 1,
    "brace": 2, "clear": 2, "weigh": 2,
    "rope": 3, "taut": 3,
}


def is_number(word):
    # Python's own test for figures takes those of other scripts, too.
    figures = all([sign in "0123456789" for sign in word])
    return figures and 1 <= len(word) <= 2 and (word == "0" or word[0] != "0")


def words_of(row):
    if not isinstance(row, str):
        raise NoRow("a row is a text")
    words = row.split(" ")
    if words[0] not in LENGTHS or len(words) != LENGTHS[words[0]]:
        raise NoRow("no row begins so, or it has other words behind")
    if len(words) > 1 and not is_number(words[1]):
        raise NoRow("a field is written by one or two figures, without noughts ahead")
    if len(words) > 2 and words[2] not in ("rising", "falling"):
        raise NoRow("a rope is rising or falling")
    return words


def listed(fields):
    return " ".join([str(field) for field in fields])


class Desk:
    def __init__(self, text):
        plan = read_plan(text)
        self.floor = plan[0]
        self.braces = plan[1]
        self.ropes = plan[2]

    def say(self, row):
        words = words_of(row)
        if len(words) == 1:
            return self.tell(words[0])
        field = int(words[1])
        if field not in self.floor[2]:
            raise NoField("this is no field of the floor")
        if len(words) == 2:
            return self.at_field(words[0], field)
        return self.at_rope(words[0], (field, words[2]))

    def tell(self, word):
        if word == "show":
            return show_plan((self.floor, self.braces, self.ropes))
        if word == "stiff":
            return "yes" if hung(self.floor, self.braces, self.ropes)[0] == "stiff" else "no"
        if word == "held":
            return listed(held(self.floor, self.braces)) or "none"
        if word == "lacking":
            return listed(lacking(self.floor, self.braces)) or "none"
        if word == "strips":
            return str(len(strips(self.floor)))
        if word == "pieces":
            return str(len(pieces(self.floor, self.braces)))
        return str(how_many(self.floor))

    def at_field(self, word, field):
        if word == "brace":
            return self.put_brace(field)
        if word == "clear":
            return self.take_out(field)
        return self.weigh(field)

    def at_rope(self, word, rope):
        if word == "rope":
            return self.hang(rope)
        if rope not in self.ropes:
            raise NoDeed("this rope isn't there")
        return tautness(self.floor, self.braces, self.ropes, rope)[0]

    def is_roped(self, field):
        return any([rope[0] == field for rope in self.ropes])

    def put_brace(self, field):
        if field in self.braces or self.is_roped(field):
            raise NoDeed("the field is braced or has a rope")
        self.braces = sorted(self.braces + [field])
        return "ok"

    def hang(self, rope):
        if rope[0] in self.braces or rope in self.ropes:
            raise NoDeed("the field is braced or the rope hangs there")
        self.ropes = sorted(self.ropes + [rope])
        return "ok"

    def take_out(self, field):
        if field not in self.braces and not self.is_roped(field):
            raise NoDeed("there is nothing in the field")
        self.braces = without(self.braces, field)
        self.ropes = [rope for rope in self.ropes if rope[0] != field]
        return "ok"

    def weigh(self, field):
        if field not in self.braces:
            raise NoDeed("the field isn't braced")
        weight = weighed(self.floor, self.braces, field)
        return "needed" if weight[0] == "needed" else "spare " + listed(weight[1])
