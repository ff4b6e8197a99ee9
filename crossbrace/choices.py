"""Choices: braces that hold a floor stiff with none to spare, what they cost, and exchanges between them."""

from crossbrace.spares import without
from crossbrace.strips import crossing, strips
from crossbrace.ways import joining, ways_from


def is_choice(floor, fields):
    # None is spare where each joins two pieces, and then so many leave one piece.
    return len(joining(floor, [], fields)) == len(fields) and len(fields) == len(strips(floor)) - 1


def price_list(floor, prices):
    return dict(zip(floor[2], prices))


def cheapest(floor, prices):
    price_of = price_list(floor, prices)
    by_price = sorted(floor[2], key=lambda field: price_of[field])
    return sorted(joining(floor, [], by_price))


def cheaper(floor, prices, choice):
    # A field put to a choice closes one ring: any other field of the ring may go out for it, the dearest at best.
    price_of = price_list(floor, prices)
    for come in [field for field in floor[2] if field not in choice]:
        at = crossing(floor, come)
        ring = ways_from(floor, choice, at[0])[at[1]]
        out = max(ring, key=lambda field: price_of[field])
        if price_of[come] < price_of[out]:
            return (out, come)
    return None


def exchanges(floor, one, other):
    # With a field out there are two pieces, and the other choice, being stiff, has a field that joins them.
    now = list(one)
    found = []
    for out in [field for field in one if field not in other]:
        left = without(now, out)
        come = joining(floor, left, other)[0]
        found.append((out, come))
        now = left + [come]
    return found
