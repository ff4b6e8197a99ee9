"""Runs along braces and ropes, there and back, and ropes that hold a whole floor without a brace."""

from crossbrace.leans import lean_up
from crossbrace.strips import crossings, strips
from crossbrace.walks import brace_steps, walks_from


def strip_steps(floor, braces, ropes):
    found = [(start, end, (field, "brace")) for start, end, field in brace_steps(floor, braces)]
    at = crossings(floor)
    for field, word in ropes:
        row = at[field][0]
        column = at[field][1]
        found.append((column, row, (field, word)) if word == "rising" else (row, column, (field, word)))
    return found


def hung(floor, braces, ropes):
    # Turns never fall along a step, so what a strip leads to may be turned up together, and the rest left.
    steps = strip_steps(floor, braces, ropes)
    numbers = list(range(len(strips(floor))))
    out = walks_from(steps, 0)
    if len(out) < len(numbers):
        return ("leans", lean_up(floor, out))
    back = walks_from([(end, start, mark) for start, end, mark in steps], 0)
    if len(back) < len(numbers):
        return ("leans", lean_up(floor, [strip for strip in numbers if strip not in back]))
    return ("stiff", [out[strip] for strip in numbers], [list(reversed(back[strip])) for strip in numbers])


def rope_plan(wide, high):
    # Each strip of the greater number has one rope to it and one from it, and together these lead in a ring
    # through all the strips that cross them.
    found = []
    for k in range(max(wide, high)):
        x = k % wide
        y = k % high
        found.append((y * wide + x, "falling"))
        if wide >= high:
            found.append(((k + 1) % high * wide + x, "rising"))
        else:
            found.append((y * wide + (k + 1) % wide, "rising"))
    return sorted(found)
