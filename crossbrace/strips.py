"""Strips: the rows and columns of a floor, and what belongs to them."""

from crossbrace.floors import across_at, up_at


def field_left(floor, field):
    # The last place of a row and the first one of the next have numbers that follow one another.
    return None if field % floor[0] == 0 else field - 1


def field_below(floor, field):
    return field - floor[0]


def runs(fields, aheads):
    # Fields rise, so each run is begun by its first field, and the runs come by their first fields.
    found = []
    run_at = {}
    for field, ahead in zip(fields, aheads):
        if ahead in run_at:
            run_at[field] = run_at[ahead]
            found[run_at[field]].append(field)
        else:
            run_at[field] = len(found)
            found.append([field])
    return [tuple(run) for run in found]


def row_runs(floor):
    return runs(floor[2], [field_left(floor, field) for field in floor[2]])


def column_runs(floor):
    return runs(floor[2], [field_below(floor, field) for field in floor[2]])


def strips(floor):
    rows = [("row", run) for run in row_runs(floor)]
    columns = [("column", run) for run in column_runs(floor)]
    return rows + columns


def crossings(floor):
    # Rows are numbered ahead of columns, so the row comes first of the two.
    found = {}
    for number, strip in enumerate(strips(floor)):
        for field in strip[1]:
            found[field] = found.get(field, ()) + (number,)
    return found


def crossing(floor, field):
    return crossings(floor)[field]


def strip_of(floor, side):
    if side[0] == "across":
        along = [field for field in floor[2] if side in across_at(floor, field)]
        return crossing(floor, along[0])[1]
    along = [field for field in floor[2] if side in up_at(floor, field)]
    return crossing(floor, along[0])[0]
