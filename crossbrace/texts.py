"""Plans, tuples (floor, braces, ropes), written as texts and read from them."""

from crossbrace.errors import NoText
from crossbrace.floors import MOST_PLACES, floor_of

SIGNS = ".xrfbo"


def sign_of(plan, place):
    ropes = plan[2]
    if place not in plan[0][2]:
        return "."
    if place in plan[1]:
        return "x"
    if (place, "rising") in ropes:
        return "b" if (place, "falling") in ropes else "r"
    return "f" if (place, "falling") in ropes else "o"


def show_plan(plan):
    wide = plan[0][0]
    rows = []
    for y in range(plan[0][1]):
        rows.append("".join([sign_of(plan, y * wide + x) for x in range(wide)]))
    return "/".join(list(reversed(rows)))


def rows_of(text):
    # From the lowest row to the highest, as places are numbered.
    if not isinstance(text, str):
        raise NoText("a plan is read from a text")
    rows = list(reversed(text.split("/")))
    if len(rows) > MOST_PLACES or not 1 <= len(rows[0]) <= MOST_PLACES:
        raise NoText("a plan has from one to six rows of from one to six signs")
    for row in rows:
        if len(row) != len(rows[0]):
            raise NoText("the rows of a plan are of one length")
        if any([sign not in SIGNS for sign in row]):
            raise NoText("a plan is written in the signs . x r f b o")
    return rows


def read_plan(text):
    rows = rows_of(text)
    signs = list(enumerate("".join(rows)))
    floor = floor_of(len(rows[0]), len(rows), [place for place, sign in signs if sign != "."])
    ropes = []
    for place, sign in signs:
        if sign in "fb":
            ropes.append((place, "falling"))
        if sign in "rb":
            ropes.append((place, "rising"))
    return (floor, [place for place, sign in signs if sign == "x"], ropes)
