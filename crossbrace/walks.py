"""Walks along steps, tuples (start, end, mark), from strip to strip or from corner to corner."""

from crossbrace.strips import crossings


def onward_from(steps):
    found = {}
    for step in steps:
        found.setdefault(step[0], []).append(step)
    return found


def walks_from(steps, start):
    # What is nearest is come to first, so no walk comes twice to one place.
    found = {start: []}
    onward = onward_from(steps)
    waiting = [start]
    while len(waiting) > 0:
        here = waiting.pop(0)
        for step in onward.get(here, []):
            if step[1] not in found:
                found[step[1]] = found[here] + [step[2]]
                waiting.append(step[1])
    return found


def there_and_back(start, end, mark):
    return [(start, end, mark), (end, start, mark)]


def brace_steps(floor, braces):
    at = crossings(floor)
    found = []
    for field in braces:
        found.extend(there_and_back(at[field][0], at[field][1], field))
    return found
