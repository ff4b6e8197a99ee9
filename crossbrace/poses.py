"""Poses: where the corners lie when the strips have turned, each side 125 long."""

from crossbrace.leans import laid_out
from crossbrace.strips import crossings
from crossbrace.ways import judged

TURNED = ((125, 0), (100, 75), (35, 120), (-44, 117))


def turned_by(k):
    stretch = TURNED[abs(k)]
    return stretch if k >= 0 else (stretch[0], -stretch[1])


def pose(floor, turns):
    return laid_out(floor, [turned_by(k) for k in turns])


def unsquare(floor, braces, turns):
    at = crossings(floor)
    for field in braces:
        if turns[at[field][0]] != turns[at[field][1]]:
            return field
    return None


def turns_of(floor, braces):
    # The leans that are judged have turns of 0 and 1 alone, so they can be put down as they are.
    verdict = judged(floor, braces)
    return verdict[1] if verdict[0] == "leans" else None
