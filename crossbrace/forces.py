"""Forces: pulls along bars, forces in the sides, and where all corners rest."""

from crossbrace.floors import bar_ends, corner_spot, corners, side_ends, sides
from crossbrace.spares import weighed
from crossbrace.strips import crossings, strips


def pull_between(floor, total, ends, number):
    one = corner_spot(floor, ends[0])
    other = corner_spot(floor, ends[1])
    right = number * (other[0] - one[0])
    above = number * (other[1] - one[1])
    here = total[ends[0]]
    there = total[ends[1]]
    total[ends[0]] = (here[0] + right, here[1] + above)
    total[ends[1]] = (there[0] - right, there[1] - above)


def pulled(floor, pulls, forces):
    total = {}
    for corner in corners(floor):
        total[corner] = (0, 0)
    for field, word, number in pulls:
        pull_between(floor, total, bar_ends(floor, field, word), number)
    for side, number in forces:
        pull_between(floor, total, side_ends(floor, side), number)
    return total


def restless(floor, pulls, forces):
    for corner, pull in pulled(floor, pulls, forces).items():
        if pull != (0, 0):
            return corner
    return None


def uneven_strip(floor, pulls):
    at = crossings(floor)
    total = [0] * len(strips(floor))
    for field, word, number in pulls:
        for strip in at[field]:
            total[strip] += number if word == "rising" else -number
    for strip, number in enumerate(total):
        if number != 0:
            return strip
    return None


def resting_forces(floor, pulls):
    # Along a line of sides each corner but hands on what it gets, so the first side gives all the others.
    total = pulled(floor, pulls, [])
    found = {}
    for side in sides(floor):
        corner = side[1]
        if side[0] == "across":
            found[side] = found.get(("across", corner - 1), 0) - total[corner][0]
        else:
            found[side] = found.get(("up", corner - floor[0] - 1), 0) - total[corner][1]
    return list(found.items())


def at_rest(floor, pulls):
    strip = uneven_strip(floor, pulls)
    if strip is not None:
        return ("uneven", strip)
    return ("rest", resting_forces(floor, pulls))


def pulls_at(floor, braces, field):
    # Each strip of a ring holds two of its fields, one behind the other, so signs by turns are even there.
    weight = weighed(floor, braces, field)
    if weight[0] == "needed":
        return None
    return sorted([(other, "rising", -1 if k % 2 else 1) for k, other in enumerate(weight[1])])
