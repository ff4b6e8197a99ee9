"""Floors, tuples (wide, high, fields), with their corners and sides."""

from crossbrace.errors import Apart, Hollow, NoFloor

MOST_PLACES = 6


def is_whole(thing):
    # A truth is an int to Python, but no whole number here.
    return isinstance(thing, int) and not isinstance(thing, bool)


def is_length(thing):
    return is_whole(thing) and 1 <= thing <= MOST_PLACES


def are_fields(wide, high, fields):
    # Beginning below 0 lets one comparison tell both the order and the least number.
    ahead = -1
    for field in fields:
        if not is_whole(field) or field <= ahead or field >= wide * high:
            return False
        ahead = field
    return len(fields) > 0


def places_beside(wide, high, place):
    x = place % wide
    y = place // wide
    found = []
    if x > 0:
        found.append(place - 1)
    if x < wide - 1:
        found.append(place + 1)
    if y > 0:
        found.append(place - wide)
    if y < high - 1:
        found.append(place + wide)
    return found


def is_outermost(wide, high, place):
    return place % wide in (0, wide - 1) or place // wide in (0, high - 1)


def reached(wide, high, starts, places):
    # The starts are among the places; rows of places lead from them to those told.
    found = {}
    waiting = list(starts)
    while len(waiting) > 0:
        place = waiting.pop()
        if place not in found:
            found[place] = True
            waiting.extend([other for other in places_beside(wide, high, place) if other in places])
    return list(found)


def hang_together(wide, high, fields):
    return len(reached(wide, high, fields[:1], fields)) == len(fields)


def have_hole(wide, high, fields):
    empty = [place for place in range(wide * high) if place not in fields]
    rim = [place for place in empty if is_outermost(wide, high, place)]
    return len(reached(wide, high, rim, empty)) < len(empty)


def floor_of(wide, high, fields):
    if not is_length(wide) or not is_length(high):
        raise NoFloor("wide and high are whole numbers from 1 to 6")
    if not isinstance(fields, (list, tuple)):
        raise NoFloor("the fields come in a list or a tuple")
    kept = tuple(fields)
    if not are_fields(wide, high, kept):
        raise NoFloor("the fields are numbers of places, rising, each once, one at least")
    if not hang_together(wide, high, kept):
        raise Apart("the fields don't hang together")
    if have_hole(wide, high, kept):
        raise Hollow("the fields have a hole")
    return (wide, high, kept)


def corners_at(floor, field):
    wide = floor[0]
    # A row has one more corner than places, so each row ahead moves the number on by one.
    lower = field + field // wide
    upper = lower + wide + 1
    return (lower, lower + 1, upper, upper + 1)


def corner_spot(floor, corner):
    return (corner % (floor[0] + 1), corner // (floor[0] + 1))


def corners(floor):
    found = []
    for field in floor[2]:
        found.extend(corners_at(floor, field))
    return sorted(set(found))


def across_at(floor, field):
    about = corners_at(floor, field)
    return (("across", about[0]), ("across", about[2]))


def up_at(floor, field):
    about = corners_at(floor, field)
    return (("up", about[0]), ("up", about[1]))


def side_ends(floor, side):
    return (side[1], side[1] + 1) if side[0] == "across" else (side[1], side[1] + floor[0] + 1)


def bar_ends(floor, field, word):
    about = corners_at(floor, field)
    return (about[0], about[3]) if word == "rising" else (about[1], about[2])


def sides(floor):
    found = []
    for field in floor[2]:
        found.extend(across_at(floor, field))
        found.extend(up_at(floor, field))
    return sorted(set(found))
