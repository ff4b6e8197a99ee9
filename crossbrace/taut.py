"""Taut and slack ropes."""

from crossbrace.leans import lean_up
from crossbrace.ropes import strip_steps
from crossbrace.walks import walks_from


def pull_of(start, end, mark):
    # Pulls are even where they run round in a ring: a rising bar from its column to its row, or with a number
    # below 0 the other way. Columns are numbered behind rows.
    if mark[1] == "brace":
        return (mark[0], "rising", 1 if start > end else -1)
    return (mark[0], mark[1], 1)


def pull_steps(floor, braces, ropes):
    steps = strip_steps(floor, braces, ropes)
    return [(start, end, pull_of(start, end, mark)) for start, end, mark in steps]


def tautness(floor, braces, ropes, rope):
    # A rope is taut where its end leads back to its start.
    own = pull_steps(floor, [], [rope])[0]
    walks = walks_from(pull_steps(floor, braces, ropes), own[1])
    if own[0] in walks:
        return ("taut", sorted([own[2]] + walks[own[0]]))
    return ("slack", lean_up(floor, walks))


def all_taut(floor, braces, ropes):
    # A rope that pulls already in the ring of one ahead is taut by that.
    total = {}
    for rope in ropes:
        if rope not in total:
            told = tautness(floor, braces, ropes, rope)
            if told[0] == "slack":
                return None
            for field, word, number in told[1]:
                total[(field, word)] = total.get((field, word), 0) + number
    return sorted([(bar[0], bar[1], number) for bar, number in total.items()])
