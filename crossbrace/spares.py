"""Spare and needed braces: rings through the spare ones, leans that break a needed one alone."""

from crossbrace.leans import lean_up
from crossbrace.strips import crossing
from crossbrace.ways import judged, ways_from


def without(fields, field):
    return [other for other in fields if other != field]


def weighed(floor, braces, field):
    # A brace is spare where the others lead from one of its strips to the other.
    at = crossing(floor, field)
    ways = ways_from(floor, without(braces, field), at[0])
    if at[1] in ways:
        return ("spare", [field] + ways[at[1]])
    return ("needed", lean_up(floor, ways))


def loses(floor, braces):
    verdict = judged(floor, braces)
    if verdict[0] == "leans":
        return verdict
    rings = []
    for field in braces:
        weight = weighed(floor, braces, field)
        if weight[0] == "needed":
            return ("needed", field, weight[1])
        rings.append(weight[1])
    return ("safe", rings)


def stripped(floor, braces):
    left = list(braces)
    for field in reversed(braces):
        if weighed(floor, left, field)[0] == "spare":
            left = without(left, field)
    return left
