"""Leans: a turn for each strip, the speeds they give the corners, and what they break."""

from crossbrace.floors import corner_spot, corners, corners_at
from crossbrace.strips import crossing, crossings, strips
from crossbrace.walks import walks_from


def leans(lean):
    return any([turn != lean[0] for turn in lean])


def lean_up(floor, up):
    return [1 if number in up else 0 for number in range(len(strips(floor)))]


def growth_steps(floor, stretches):
    # An up side stands a quarter to the left of an across side that is turned alike.
    at = crossings(floor)
    found = []
    for field in floor[2]:
        about = corners_at(floor, field)
        row = stretches[at[field][0]]
        across = stretches[at[field][1]]
        up = (-row[1], row[0])
        for start, end, growth in ((0, 1, across), (2, 3, across), (0, 2, up), (1, 3, up)):
            found.append((about[start], about[end], growth))
            found.append((about[end], about[start], (-growth[0], -growth[1])))
    return found


def laid_out(floor, stretches):
    # Speeds and poses are told alike: a stretch for each strip, added up from the least corner on.
    known = corners(floor)
    walks = walks_from(growth_steps(floor, stretches), known[0])
    found = []
    for corner in known:
        across = sum([growth[0] for growth in walks[corner]])
        up = sum([growth[1] for growth in walks[corner]])
        found.append((corner, across, up))
    return found


def speeds(floor, lean):
    return laid_out(floor, [(0, turn) for turn in lean])


def stretch(floor, lean, start, end):
    speed_at = {}
    for corner, across, up in speeds(floor, lean):
        speed_at[corner] = (across, up)
    total = 0
    for axis in (0, 1):
        growth = speed_at[end][axis] - speed_at[start][axis]
        total += growth * (corner_spot(floor, end)[axis] - corner_spot(floor, start)[axis])
    return total


def bar_stretch(at, lean, word):
    rising = lean[at[1]] - lean[at[0]]
    return rising if word == "rising" else -rising


def broken(floor, braces, ropes, lean):
    at = crossings(floor)
    for field in braces:
        if bar_stretch(at[field], lean, "rising") != 0:
            return ("brace", field)
    for field, word in ropes:
        if bar_stretch(at[field], lean, word) > 0:
            return ("rope", field, word)
    return None


def slack(floor, lean, rope):
    return bar_stretch(crossing(floor, rope[0]), lean, rope[1]) < 0
