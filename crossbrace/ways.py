"""Ways along braces from strip to strip: whether a floor is stiff, what is held, and what is lacking."""

from crossbrace.leans import lean_up
from crossbrace.strips import crossing, crossings, strips
from crossbrace.walks import brace_steps, walks_from


def ways_from(floor, braces, strip):
    return walks_from(brace_steps(floor, braces), strip)


def judged(floor, braces):
    ways = ways_from(floor, braces, 0)
    if len(ways) < len(strips(floor)):
        return ("leans", lean_up(floor, ways))
    return ("stiff", [ways[strip] for strip in range(len(ways))])


def pieces(floor, braces):
    steps = brace_steps(floor, braces)
    found = []
    met = {}
    for strip in range(len(strips(floor))):
        if strip not in met:
            ways = walks_from(steps, strip)
            met.update(ways)
            found.append(sorted(ways))
    return found


def labels(floor, braces):
    # Strips in one piece bear one label, that of the piece's first strip.
    found = {}
    for piece in pieces(floor, braces):
        for strip in piece:
            found[strip] = piece[0]
    return found


def held(floor, braces):
    label = labels(floor, braces)
    at = crossings(floor)
    return [field for field in floor[2] if label[at[field][0]] == label[at[field][1]]]


def lean_at(floor, braces, field):
    at = crossing(floor, field)
    ways = ways_from(floor, braces, at[0])
    return None if at[1] in ways else lean_up(floor, ways)


def joining(floor, braces, fields):
    # Those of the fields, in their order, that join two pieces, the ones ahead braced too.
    label = labels(floor, braces)
    at = crossings(floor)
    found = []
    for field in fields:
        one = label[at[field][0]]
        other = label[at[field][1]]
        if one != other:
            found.append(field)
            for strip in list(label):
                if label[strip] == other:
                    label[strip] = one
    return found


def lacking(floor, braces):
    return joining(floor, braces, floor[2])
