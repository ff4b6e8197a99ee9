"""Floors to test with, and a plain drawing of them to look at them by."""

# Drawn from the highest row to the lowest: "o" a field, "." a place that is none.
SHAPES = [
    "o",
    "oooooo",
    "o/o/o/o/o/o",
    "oo/oo",
    "ooo/ooo",
    "oooooo/oooooo/oooooo/oooooo/oooooo/oooooo",
    ".o/oo",
    "o./oo",
    "oo/.o",
    "oo/o.",
    "o.o/ooo",
    "ooo/o.o",
    "oo/.o/oo",
    "oo/o./oo",
    ".o./ooo/.o.",
    "o.o.o/ooooo/o.o.o",
    "oooo/o..o/o.oo",
    "oooooo/o...../o.oooo/o.o..o/o....o/oooooo",
    "..o/.oo/oo.",
    ".o./.o./.o.",
    "..../.oo./.oo./....",
    "o.oooo/o.o..o/ooo..o/.....o/oooooo/o.....",
]


def drawn(shape):
    rows = shape.split("/")
    wide = len(rows[0])
    high = len(rows)
    spots = []
    for y, row in enumerate(reversed(rows)):
        assert len(row) == wide
        for x, sign in enumerate(row):
            if sign == "o":
                spots.append((x, y))
    return wide, high, spots


def fields_of(shape):
    wide, high, spots = drawn(shape)
    return wide, high, sorted(y * wide + x for x, y in spots)


def floor_drawn(shape):
    wide, high, fields = fields_of(shape)
    return wide, high, tuple(fields)


def all_choices(wide, high):
    """Each choice of places, as a list of rising numbers, the empty one left out."""
    places = wide * high
    for bits in range(1, 2 ** places):
        yield [place for place in range(places) if bits >> place & 1]


def some_choices(wide, high, how_many):
    """Choices of places of all kinds, the same ones at every run."""
    places = wide * high
    state = 12345 + 7 * wide + high
    for _ in range(how_many):
        state = (state * 6364136223846793005 + 1442695040888963407) % 2 ** 64
        bits = state >> 20
        extra = bits >> 3 if state >> 60 & 1 else 0
        chosen = (bits | extra) % 2 ** places
        if chosen:
            yield [place for place in range(places) if chosen >> place & 1]
