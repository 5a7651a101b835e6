"""Rows: papers told as tuples, and how a row is checked place by place, whatever is handed in."""

from landroll.cells import SIDE, every, has, is_number
from landroll.errors import BadPaper
from landroll.fractions import ALL, fraction, sum_of
from landroll.pieces import is_one
from landroll.shares import is_name

LAST_DAY = 1000000000
LAST_NUMBER = 1000000000
MOST_NAMES = 12
GREATEST_BOTTOM = 1000000000
GREATEST_AMOUNT = 1000000000000
AXES = ("x", "y")
BURDEN_KINDS = ("debt", "way", "buy", "note")
AT = 4
BURDEN_KIND = 5


def is_within(thing, least, greatest):
    return is_number(thing) and least <= thing <= greatest


def is_date(thing):
    return is_within(thing, 0, LAST_DAY)


def is_one_of(thing, texts):
    return isinstance(thing, str) and thing in texts


def is_rising(names):
    return all([names[place - 1] < names[place] for place in range(1, len(names))])


def is_tuple_of(thing, many):
    return isinstance(thing, tuple) and len(thing) == many


# A fraction of a share: one that is in lowest terms is made of its own top and bottom again.
def is_part(thing):
    if not is_tuple_of(thing, 2) or not is_within(thing[1], 1, GREATEST_BOTTOM):
        return False
    return is_within(thing[0], 1, thing[1]) and fraction(thing[0], thing[1]) == thing


def is_holding(thing):
    return is_tuple_of(thing, 2) and is_name(thing[0]) and is_part(thing[1])


def is_piece(floor, thing):
    return is_within(thing, 1, every(floor)) and is_one(floor, thing)


# The defs that follow tell whether the thing at a place of a row is good. They are asked in the order of the places,
# so each may count on the things ahead of its place.
def good_number(floor, row, place):
    return is_within(row[place], 1, LAST_NUMBER)


def good_other_number(floor, row, place):
    return good_number(floor, row, place) and row[place] != row[place - 1]


def good_date(floor, row, place):
    return is_date(row[place])


def good_signed(floor, row, place):
    signed = row[place]
    if not isinstance(signed, tuple) or len(signed) > MOST_NAMES:
        return False
    return all([is_name(thing) for thing in signed]) and is_rising(signed)


def good_piece(floor, row, place):
    return is_piece(floor, row[place])


def good_shares(floor, row, place):
    shares = row[place]
    if not isinstance(shares, tuple) or not 1 <= len(shares) <= MOST_NAMES:
        return False
    if not all([is_holding(thing) for thing in shares]):
        return False
    return is_rising([pair[0] for pair in shares]) and sum_of([pair[1] for pair in shares]) == ALL


def good_cell(floor, row, place):
    return is_within(row[place], 0, floor[0] * floor[1] - 1)


def good_other_cell(floor, row, place):
    return good_cell(floor, row, place) and row[place] != row[place - 1]


def good_axis(floor, row, place):
    return is_one_of(row[place], AXES)


def good_line(floor, row, place):
    return is_within(row[place], 0, SIDE)


def good_name(floor, row, place):
    return is_name(row[place])


def good_other_name(floor, row, place):
    return is_name(row[place]) and row[place] != row[place - 1]


def good_part(floor, row, place):
    return is_part(row[place])


def good_ground(floor, row, place):
    ground = row[place]
    return is_within(ground, 0, every(floor)) and (ground == 0 or has(ground, row[AT]))


def good_trust(floor, row, place):
    return row[place] is None or is_date(row[place])


def good_burden_kind(floor, row, place):
    return is_one_of(row[place], BURDEN_KINDS)


def good_amount(floor, row, place):
    return is_within(row[place], 0, GREATEST_AMOUNT)


def good_until(floor, row, place):
    return is_date(row[place]) and (row[place] == 0 or row[BURDEN_KIND] == "note")


def good_over(floor, row, place):
    if row[BURDEN_KIND] == "way":
        return is_piece(floor, row[place])
    return is_within(row[place], 0, 0)


def good_note(floor, row, place):
    return is_within(row[place], 0, LAST_NUMBER) and (row[place] == 0 or row[BURDEN_KIND] != "note")


# For each kind what is asked of its places, from place 1 on.
LOOKS = {
    "grant": (good_number, good_date, good_signed, good_piece, good_shares),
    "cut": (good_number, good_date, good_signed, good_cell, good_axis, good_line),
    "join": (good_number, good_date, good_signed, good_cell, good_other_cell),
    "give": (
        good_number, good_date, good_signed, good_cell, good_name, good_other_name, good_part, good_ground, good_trust,
    ),
    "lay": (
        good_number, good_date, good_signed, good_cell, good_burden_kind, good_name, good_amount, good_until,
        good_over, good_note, good_ground, good_trust,
    ),
    "lift": (good_number, good_date, good_signed, good_cell, good_number),
    "waive": (good_number, good_date, good_signed, good_cell, good_number, good_other_number),
}


def has_kind(row):
    if not isinstance(row, tuple) or len(row) == 0 or not isinstance(row[0], str):
        return False
    return row[0] in LOOKS and len(row) == len(LOOKS[row[0]]) + 1


def check(floor, row):
    if not has_kind(row):
        raise BadPaper("a row is a tuple that begins with its kind and has as many things as its kind", 0)
    for place, look in enumerate(LOOKS[row[0]], start=1):
        if not look(floor, row, place):
            raise BadPaper(f"the thing at place {place} is none that this kind of row has there", place)
