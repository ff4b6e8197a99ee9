"""How many choices a floor has."""

from crossbrace.strips import crossings, strips


def strip_table(floor):
    # The strips and fields are the knots and edges of a graph, the choices its spanning trees.
    number = len(strips(floor))
    table = [[0] * number for strip in range(number)]
    for row, column in crossings(floor).values():
        table[row][row] += 1
        table[column][column] += 1
        table[row][column] -= 1
        table[column][row] -= 1
    return table


def reduced(first, row, divisor):
    return [(row[k] * first[0] - row[0] * first[k]) // divisor for k in range(1, len(row))]


def determinant(table):
    # Each division leaves no remainder. The first number of a table is never 0 where it comes of a floor's strips.
    left = table
    divisor = 1
    while len(left) > 1:
        first = left[0]
        left = [reduced(first, row, divisor) for row in left[1:]]
        divisor = first[0]
    return left[0][0]


def how_many(floor):
    # Any one strip may be left out of the table: the determinant of the rest is the number of spanning trees.
    return determinant([row[1:] for row in strip_table(floor)[1:]])
