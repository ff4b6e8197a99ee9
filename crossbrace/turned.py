"""Floors turned by a quarter, mirrored, or with rows and columns exchanged."""


def quarter_field(floor, field):
    wide = floor[0]
    high = floor[1]
    return field % wide * high + high - 1 - field // wide


def mirrored_field(floor, field):
    wide = floor[0]
    return field // wide * wide + wide - 1 - field % wide


def quarter(floor):
    return (floor[1], floor[0], tuple(sorted([quarter_field(floor, field) for field in floor[2]])))


def mirrored(floor):
    return (floor[0], floor[1], tuple(sorted([mirrored_field(floor, field) for field in floor[2]])))


def other_word(word):
    return "falling" if word == "rising" else "rising"


def quarter_ropes(floor, ropes):
    return sorted([(quarter_field(floor, field), other_word(word)) for field, word in ropes])


def mirrored_ropes(floor, ropes):
    return sorted([(mirrored_field(floor, field), other_word(word)) for field, word in ropes])


def swapped(wide, high, columns, rows, fields):
    return sorted([rows[field // wide] * wide + columns[field % wide] for field in fields])
