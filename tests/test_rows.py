import unittest

from landroll.errors import BadPaper
from landroll.rows import LAST_DAY, check, is_date
from tests.helper import (
    FLOORS, KINDS, NO_NAMES, NO_NUMBERS, Echo, Mix, Sulk, all_sets, bits, clumps, drawn, mixed_plots, mixed_row,
    numbers, refused,
)

FLOOR = (4, 3)
TOP = 10 ** 9
TWELVE = tuple("abcdefghijkl")
THIRTEEN = TWELVE + ("m",)
HALVES = (("ann", (1, 2)), ("bob", (1, 2)))
RING = bits([0, 1, 2, 3, 7, 11, 10, 9, 8, 4])


def even(names):
    return tuple((name, (1, len(names))) for name in names)


# Of each sort things that are good on FLOOR, whatever else is in the row.
NUMBERS = (1, 2, 7, TOP - 1, TOP)
DATES = (0, 1, 40, TOP - 1, TOP)
SIGNED = ((), ("ann",), ("ann", "bob"), ("a", "aa", "ab", "b"), TWELVE[:11], TWELVE, ("abcdefgh", "zzzzzzzz"))
CELLS = tuple(range(12))
PIECES = (1, bits([0, 1, 5]), bits([11]), bits(range(12)), RING)
PARTS = ((1, 1), (1, 2), (2, 3), (7, 9), (1, TOP), (TOP - 1, TOP))
SHARES = (
    (("ann", (1, 1)),), HALVES, even("ab"), even(TWELVE[:11]), even(TWELVE), even(("aa", "aaa", "ab")),
    (("a", (1, TOP)), ("b", (TOP - 1, TOP))), (("ann", (1, 2)), ("bob", (1, 3)), ("cid", (1, 6))),
    tuple((name, (1, 13)) for name in TWELVE[:11]) + (("l", (2, 13)),),
    (("a", (1, TOP)), ("b", (1, 2)), ("c", (TOP // 2 - 1, TOP))),
)
NAMES = ("a", "z", "ann", "abcdefgh", "zzzzzzzz")
AMOUNTS = (0, 1, 500, 10 ** 12 - 1, 10 ** 12)
TRUSTS = (None,) + DATES

# And things that are good on no floor.
NO_PAPER_NUMBERS = NO_NUMBERS + (0, -1, -TOP, TOP + 1, 10 ** 30)
NO_NOTES = NO_NUMBERS + (-1, -TOP, TOP + 1, 10 ** 30)
NO_DATES = NO_NUMBERS + (-1, -TOP, TOP + 1, 10 ** 30)
NO_TRUSTS = tuple(thing for thing in NO_DATES if thing is not None)
NO_SIGNED = (
    None, True, False, 0, 1, "ann", "", "a", "ab", ["ann"], [], {}, {"ann": True}, {"ann"}, frozenset(["ann"]), 1.0,
    object(),
    ("ann", "ann"), ("bob", "ann"), ("ann", "cid", "bob"), ("ann", "bob", "bob"), ("ann", "ann", "bob"), ("ab", "a"),
    ("b", "aa"), THIRTEEN, THIRTEEN + ("n",), tuple(reversed(TWELVE)), ("Ann",), ("",), ("abcdefghi",), ("ann", ""),
    ("ann", None), (None, "ann"), (None,), (None, None), ("ann", 1), (1,), (1, 2), (True,), (("ann",),), (["ann"],),
    ("ann", ["bob"]), (b"ann",), ("ann", "bob", object()),
)
NO_CELLS = NO_NUMBERS + (-1, -12, 64, 10 ** 30)
NO_GROUNDS = NO_NUMBERS + (-1, -2, -2 ** 64, 2 ** 64, 2 ** 64 + 1, 10 ** 30)
NO_PIECES = NO_GROUNDS + (0,)
NO_PARTS = (
    None, True, False, 0, 1, 0.5, "1/2", "12", "", (), (1,), (1, 2, 3), [1, 2], {}, {1: 2}, object(),
    (0, 1), (0, 2), (-1, 2), (1, -2), (-1, -2), (-1, 1), (2, 4), (2, 2), (5, 5), (10, 15), (TOP, TOP), (3, 2), (2, 1),
    (TOP, 1),
    (1, 0), (0, 0), (1, TOP + 1), (TOP, TOP + 1), (TOP + 1, TOP + 1), (TOP + 1, TOP), (1, 10 ** 60),
    (1.0, 2), (1, 2.0), (True, 2), (1, True), (True, True), (None, 2), (1, None), ("1", 2), (1, "2"), ((1,), 2),
    (1, (2,)), ([1], 2), (1, [2]), (1, {}), (1, object()),
)
NO_SHARES = (
    None, True, False, 0, 1, 1.0, "", "ann", "ab", (), [], [("ann", (1, 1))], {}, {"ann": (1, 1)}, object(),
    ("ann",), ("ann", (1, 1)), ("ab",), ("ab", "cd"), ((),), (1,), (None,),
    (("ann",),), (("ann", (1, 1), 1),), (["ann", (1, 1)],), (("ann", [1, 1]),), (("ann", 1),), (("ann", None),),
    (((1, 1), "ann"),), (("ann", (1, 1)), None), (("ann", (1, 1)), ()), (None, ("ann", (1, 1))),
    even(THIRTEEN), even(TWELVE) + (("m", (1, 12)),), even(("b", "a")), even(("a", "a")), even(("a", "b", "b")),
    even(("a", "a", "b")), even(("a", "c", "b")), even(tuple(reversed(TWELVE))),
    (("ann", (2, 4)), ("bob", (1, 2))), (("ann", (1, 2)), ("bob", (2, 4))), (("ann", (2, 2)),), (("ann", (3, 3)),),
    (("ann", (0, 1)), ("bob", (1, 1))), (("ann", (1, 1)), ("bob", (0, 1))), (("ann", (2, 1)), ("bob", (-1, 1))),
    (("ann", (-1, 2)), ("bob", (3, 2))), (("ann", (3, 2)),), (("ann", (2, 1)),), (("ann", (-1, -1)),),
    (("ann", (1, 0)),),
    (("ann", (1, TOP + 1)), ("bob", (TOP, TOP + 1))), (("ann", (1, 2 * TOP)), ("bob", (2 * TOP - 1, 2 * TOP))),
    (("ann", (1, 2)),), (("ann", (1, 2)), ("bob", (1, 3))), (("ann", (1, 2)), ("bob", (2, 3))),
    (("ann", (TOP - 1, TOP)),), (("ann", (1, 1)), ("bob", (1, 1))), HALVES + (("cid", (1, TOP)),),
    (("ann", (TOP - 2, TOP - 1)), ("bob", (1, TOP))),
    even(("Ann",)), even(("",)), even(("abcdefghi",)), even((1,)), even((None,)), even((["ann"],)), even((("ann",),)),
    even(("ann", None)), even((None, "ann")), even((1, 2)),
    (("ann", (True, 1)),), (("ann", (1, True)),), (("ann", (1.0, 1)),), (("ann", (1, 1.0)),), (("ann", (1,)),),
    (("ann", (1, 1, 1)),), (("ann", ("1", "1")),), (("ann", (None, None)),),
)
NO_AXES = ("", "z", "X", "Y", "xy", "xx", " x", "x ", "x\n", ("x",), ["x"], {"x": "y"}, {"x"}, b"x", 0) + NO_NUMBERS
NO_PLACES = NO_NUMBERS + (-1, -8, 9, 10 ** 30)
NO_AMOUNTS = NO_NUMBERS + (-1, -10 ** 12, 10 ** 12 + 1, 10 ** 30)
NO_BURDEN_KINDS = (
    "", "d", "debts", "Debt", "DEBT", "way ", " way", "grant", "lay", "sale", ("debt",), ["debt"], {"debt": 1},
    {"debt"}, b"debt", 0,
) + NO_NUMBERS

# A good row on FLOOR of each kind, and of each burden's kind a lay.
FIRST = (7, 40, ("ann", "bob"))
GOOD = (
    ("grant",) + FIRST + (bits([0, 1, 5]), HALVES),
    ("cut",) + FIRST + (3, "x", 2),
    ("join",) + FIRST + (3, 4),
    ("give",) + FIRST + (3, "ann", "cid", (1, 2), bits([2, 3, 7]), 30),
    ("lay",) + FIRST + (3, "debt", "cid", 500, 0, 0, 5, bits([2, 3, 7]), 30),
    ("lay",) + FIRST + (3, "way", "cid", 500, 0, bits([2, 3]), 5, bits([2, 3, 7]), None),
    ("lay",) + FIRST + (3, "buy", "cid", 500, 0, 0, 0, 0, 30),
    ("lay",) + FIRST + (3, "note", "cid", 500, 90, 0, 0, bits([2, 3, 7]), 30),
    ("lift",) + FIRST + (3, 5),
    ("waive",) + FIRST + (3, 5, 6),
)
OPENING = ((1, NUMBERS, NO_PAPER_NUMBERS), (2, DATES, NO_DATES), (3, SIGNED, NO_SIGNED))
AT = (4, CELLS, NO_CELLS)
# For each kind and place what is good there in the row of GOOD, and what is never good.
PLACES = {
    "grant": OPENING + ((4, PIECES, NO_PIECES), (5, SHARES, NO_SHARES)),
    "cut": OPENING + (AT, (5, ("x", "y"), NO_AXES), (6, tuple(range(9)), NO_PLACES)),
    "join": OPENING + ((4, (0, 1, 2, 3, 11), NO_CELLS), (5, (0, 1, 2, 11), NO_CELLS)),
    "give": OPENING + (
        (4, (2, 3, 7), NO_CELLS), (5, NAMES, NO_NAMES), (6, ("a", "bob", "zzzzzzzz"), NO_NAMES), (7, PARTS, NO_PARTS),
        (8, (0, 8, bits([0, 3, 11]), bits(range(12))), NO_GROUNDS), (9, TRUSTS, NO_TRUSTS),
    ),
    "lay": OPENING + (
        (4, (3,), NO_CELLS), (5, (), NO_BURDEN_KINDS), (6, NAMES, NO_NAMES), (7, AMOUNTS, NO_AMOUNTS),
        (8, (0,), NO_DATES), (9, (), NO_GROUNDS), (10, (0,), NO_NOTES),
        (11, (0, 8, bits([0, 3, 11]), bits(range(12))), NO_GROUNDS), (12, TRUSTS, NO_TRUSTS),
    ),
    "lift": OPENING + (AT, (5, NUMBERS, NO_PAPER_NUMBERS)),
    "waive": OPENING + (AT, (5, (1, 2, TOP), NO_PAPER_NUMBERS), (6, (1, 2, TOP), NO_PAPER_NUMBERS)),
}


def put(row, *things):
    """The row with other things at some places: place, thing, place, thing and so on."""
    told = list(row)
    for turn in range(0, len(things), 2):
        told[things[turn]] = things[turn + 1]
    return tuple(told)


def good(kind):
    return [row for row in GOOD if kind in (row[0], row[5])][0]


class Rows(unittest.TestCase):
    """What the other tests here hold rows against."""

    def passes(self, row, floor=FLOOR):
        with self.subTest(row=row, floor=floor):
            self.assertIsNone(check(floor, row))

    def fails(self, row, place, floor=FLOOR):
        refused(self, BadPaper, check, floor, row)
        with self.subTest(row=row, floor=floor):
            try:
                check(floor, row)
            except BadPaper as taken:
                self.assertEqual(taken.place, place)
                self.assertIs(type(taken.place), int)


class Dates(unittest.TestCase):
    def test_the_last_day(self):
        self.assertEqual(LAST_DAY, 1000000000)
        self.assertIs(type(LAST_DAY), int)

    def test_dates(self):
        for thing in (0, 1, 2, 40, 10 ** 8, TOP - 1, LAST_DAY):
            self.assertIs(is_date(thing), True)

    def test_numbers_beyond(self):
        for thing in (-1, -2, -TOP, TOP + 1, LAST_DAY + 1, 10 ** 10, 10 ** 1000, -10 ** 1000):
            self.assertIs(is_date(thing), False)

    def test_other_things(self):
        for thing in NO_NUMBERS + ("0", "40", (0,), [40], {40}, 0.0, 40.0):
            with self.subTest(thing=thing):
                self.assertIs(is_date(thing), False)
        self.assertIs(is_date(Echo()), False)
        self.assertIs(is_date(Sulk()), False)


class Good(Rows):
    def test_a_row_of_each_kind(self):
        for row in GOOD:
            self.passes(row)
        self.assertEqual({row[0] for row in GOOD}, set(KINDS))

    def test_each_place(self):
        for row in GOOD:
            for place, some, wrong in PLACES[row[0]]:
                for thing in some:
                    self.passes(put(row, place, thing))

    def test_lays(self):
        for until in DATES:
            self.passes(put(good("note"), 8, until))
        for over in PIECES:
            self.passes(put(good("way"), 9, over))
        for kind in ("debt", "way", "buy"):
            for note in (0,) + NUMBERS:
                self.passes(put(good(kind), 10, note))
        for kind in ("debt", "buy", "note"):
            self.passes(put(good("buy"), 5, kind))
        for at in CELLS:
            self.passes(put(good("buy"), 4, at))

    def test_who_signed_and_the_row_own_number_are_not_asked(self):
        self.passes(put(good("give"), 3, ()))
        self.passes(put(good("waive"), 5, 7))
        self.passes(put(good("lift"), 5, 7))
        self.passes(put(good("debt"), 10, 7))

    def test_trust_and_since_and_until_have_nothing_to_do_with_one_another(self):
        self.passes(put(good("give"), 2, 0, 9, TOP))
        self.passes(put(good("note"), 2, TOP, 8, 0, 12, TOP))
        self.passes(put(good("give"), 8, 0, 9, 30))

    def test_the_same_name_or_number_where_unlike_ones_are_not_asked(self):
        self.passes(put(good("give"), 3, ("ann", "cid")))
        self.passes(put(good("waive"), 1, 5, 4, 5))
        self.passes(put(good("cut"), 4, 2))

    def test_mixed_ones_on_each_floor(self):
        mix = Mix(51)
        for turn in range(40):
            for floor in FLOORS[1:]:
                plots = mixed_plots(mix, floor)
                for kind in KINDS:
                    self.passes(mixed_row(mix, floor, plots, kind), floor)

    def test_it_tells_the_same_again(self):
        for row in GOOD:
            before = tuple(row)
            self.assertIsNone(check(FLOOR, row))
            self.assertIsNone(check(FLOOR, row))
            self.assertEqual(row, before)


class NoRows(Rows):
    def test_no_tuple(self):
        for thing in NO_NUMBERS + (0, 7, -1, "grant", "cut", ["grant"], {"grant": 1}, object, lambda: None):
            if thing not in ((), (1,)):
                self.fails(thing, 0)
        for row in GOOD:
            for thing in (list(row), str(row), dict(enumerate(row)), iter(row), [row]):
                self.fails(thing, 0)

    def test_no_things(self):
        self.fails((), 0)

    def test_unknown_kinds(self):
        for row in GOOD:
            for kind in (
                "", "g", "grants", "Grant", "GRANT", "grant ", " grant", "lay\n", "paper", "strike", "debt", "way",
                "buy", "note", "x", "\x00",
            ):
                self.fails(put(row, 0, kind), 0)
                self.fails((kind,), 0)

    def test_kinds_that_are_no_texts(self):
        for row in GOOD:
            for kind in NO_NUMBERS + (0, 1, -1, (row[0],), [row[0]], {row[0]: 1}, {row[0]}, row[0].encode(), object()):
                if kind != "abc":
                    self.fails(put(row, 0, kind), 0)
                    self.fails((kind,), 0)
        self.fails(((),), 0)
        self.fails(("strike", 7), 0)

    def test_too_few_and_too_many_things(self):
        for row in GOOD:
            for many in range(1, len(row)):
                self.fails(row[:many], 0)
            for more in ((None,), (0,), (1,), ("ann",), ((),), (1, 2), row, row[1:]):
                self.fails(row + more, 0)

    def test_a_kind_with_the_things_of_another_one(self):
        lengths = {"grant": 6, "cut": 7, "join": 6, "give": 10, "lay": 13, "lift": 6, "waive": 7}
        for row in GOOD:
            for kind in lengths:
                if lengths[kind] != len(row):
                    self.fails(put(row, 0, kind), 0)

    def test_the_number_of_things_goes_ahead_of_what_they_are(self):
        for row in GOOD:
            self.fails(put(row, 1, None)[:-1], 0)
            self.fails(put(row, 1, 0) + (1,), 0)
            self.fails((row[0],) + (None,) * len(row), 0)
            self.fails((row[0],) + (None,) * (len(row) - 1), 1)


class Spoilt(Rows):
    def test_each_place_alone(self):
        for row in GOOD:
            for place, some, wrong in PLACES[row[0]]:
                for thing in wrong:
                    self.fails(put(row, place, thing), place)

    def test_two_places_at_once(self):
        for row in GOOD:
            for first, some, wrong in PLACES[row[0]]:
                for later, other, amiss in PLACES[row[0]]:
                    if first < later:
                        for turn, thing in enumerate(wrong):
                            self.fails(put(row, first, thing, later, amiss[turn % len(amiss)]), first)

    def test_all_places_from_one_on(self):
        for row in GOOD:
            for place in range(1, len(row)):
                for thing in (None, object(), -1, 2.5, [], {}, "A", float("nan"), True, (1.0,)):
                    spoilt = row[:place] + (thing,) * (len(row) - place)
                    if not (thing is None and row[0] in ("give", "lay") and place == len(row) - 1):
                        self.fails(spoilt, place)

    def test_things_that_do_not_bear_to_be_compared(self):
        for row in GOOD:
            for thing in (Echo(), Sulk()):
                self.fails(thing, 0)
                for place in range(len(row)):
                    self.fails(put(row, place, thing), place)
                    self.fails(row[:place] + (thing,) * (len(row) - place), place)
                for odd in ((thing,), ("ann", thing), (thing, "ann"), (thing, thing)):
                    self.fails(put(row, 3, odd), 3)
                for odd in ((thing, (1, 1)), ("ann", thing), ("ann", (thing, 1)), ("ann", (1, thing)), thing):
                    self.fails(put(good("grant"), 5, (odd,)), 5)
                for odd in ((thing, 2), (1, thing), (thing, thing), (thing,)):
                    self.fails(put(good("give"), 7, odd), 7)

    def test_nothing_in_a_spoilt_row_is_changed(self):
        signed, shares, axis = ["bob", "ann"], [("ann", (1, 1))], {"x": 1}
        self.fails(put(good("cut"), 3, signed), 3)
        self.fails(put(good("grant"), 5, shares), 5)
        self.fails(put(good("cut"), 5, axis), 5)
        self.fails(signed, 0)
        self.assertEqual((signed, shares, axis), (["bob", "ann"], [("ann", (1, 1))], {"x": 1}))


class Together(Rows):
    def test_two_cells_that_are_alike(self):
        for at in CELLS:
            self.fails(put(good("join"), 4, at, 5, at), 5)
            self.passes(put(good("join"), 4, at, 5, (at + 1) % 12))
        self.fails(put(good("join"), 4, 12, 5, 12), 4)

    def test_two_names_that_are_alike(self):
        for name in NAMES:
            self.fails(put(good("give"), 5, name, 6, name), 6)
        self.fails(put(good("give"), 5, "ann", 6, "ann", 7, None), 6)
        self.fails(put(good("give"), 5, "Ann", 6, "Ann"), 5)

    def test_two_numbers_that_are_alike(self):
        for number in NUMBERS:
            self.fails(put(good("waive"), 5, number, 6, number), 6)
        self.fails(put(good("waive"), 5, 0, 6, 0), 5)

    def test_at_outside_of_ground(self):
        for kind, place in (("give", 8), ("debt", 11), ("way", 11), ("buy", 11), ("note", 11)):
            for ground in (1, bits([2, 7]), bits(range(12)) - 8, bits([0, 11])):
                self.fails(put(good(kind), place, ground), place)
                self.fails(put(good(kind), place, ground, place + 1, -1), place)
            for at in CELLS:
                self.passes(put(good(kind), 4, at, place, 2 ** at))
                self.passes(put(good(kind), 4, at, place, bits([0, 3, at, 11])))
                self.fails(put(good(kind), 4, at, place, 2 ** ((at + 1) % 12)), place)
                self.passes(put(good(kind), 4, at, place, 0))
            for at in (12, -1, None, True):
                self.fails(put(good(kind), 4, at), 4)

    def test_ground_need_not_be_one_piece(self):
        self.passes(put(good("give"), 8, bits([0, 3, 9])))
        self.passes(put(good("debt"), 11, bits([3, 8])))

    def test_until_but_for_a_note(self):
        for kind in ("debt", "way", "buy"):
            for until in (1, 40, TOP):
                self.fails(put(good(kind), 8, until), 8)
                self.fails(put(good(kind), 8, until, 9, None), 8)
            self.passes(put(good(kind), 8, 0))
        self.fails(put(good("note"), 5, "debt"), 8)

    def test_over_but_for_a_way(self):
        for kind in ("debt", "buy", "note"):
            for over in (1, 8, bits([2, 3]), bits(range(12)), bits([0, 2])):
                self.fails(put(good(kind), 9, over), 9)
                self.fails(put(good(kind), 9, over, 10, None), 9)
        self.fails(put(good("way"), 5, "debt"), 9)
        self.fails(put(good("debt"), 5, "way"), 9)

    def test_over_of_a_way(self):
        for over in (0, bits([0, 2]), bits([0, 5]), bits([3, 4]), bits(range(12)) - bits([1, 5, 9])):
            self.fails(put(good("way"), 9, over), 9)
        self.passes(put(good("way"), 9, bits([8, 9])))

    def test_a_note_that_names_a_note(self):
        for note in NUMBERS:
            self.fails(put(good("note"), 10, note), 10)
            self.fails(put(good("note"), 10, note, 11, None), 10)
        self.fails(put(good("debt"), 5, "note"), 10)

    def test_several_that_go_by_the_kind(self):
        self.fails(put(good("debt"), 8, 1, 9, 1), 8)
        self.fails(put(good("note"), 9, 1, 10, 1), 9)
        self.fails(put(good("note"), 10, 1, 11, 1), 10)
        self.fails(put(good("way"), 9, 0, 11, 1), 9)
        self.fails(put(good("note"), 5, "way", 8, 90, 9, 0), 8)


class Floors(Rows):
    def test_a_cell_of_the_floor(self):
        for wide in range(1, 9):
            for high in range(1, 9):
                for kind in ("cut", "lift", "waive", "buy"):
                    self.passes(put(good(kind), 4, wide * high - 1), (wide, high))
                    self.passes(put(good(kind), 4, 0), (wide, high))
                    for at in (wide * high, wide * high + 1, 64, -1):
                        self.fails(put(good(kind), 4, at), 4, (wide, high))

    def test_the_other_cell_of_a_join(self):
        for floor in FLOORS:
            last = floor[0] * floor[1] - 1
            self.fails(put(good("join"), 4, 0, 5, last + 1), 5, floor)
            self.fails(put(good("join"), 4, last + 1, 5, 0), 4, floor)
            self.fails(put(good("join"), 4, last, 5, last), 5, floor)
            if last > 0:
                self.passes(put(good("join"), 4, 0, 5, last), floor)
                self.passes(put(good("join"), 4, last, 5, 0), floor)

    def test_ground_and_over_on_the_floor(self):
        for floor in FLOORS:
            cells = bits(range(floor[0] * floor[1]))
            for kind, place in (("give", 8), ("note", 11)):
                row = put(good(kind), 4, 0, place, cells)
                self.passes(row, floor)
                self.passes(put(row, place, 1), floor)
                self.fails(put(row, place, cells + 1), place, floor)
                self.fails(put(row, place, cells * 2 + 1), place, floor)
            row = put(good("way"), 4, 0, 9, cells, 11, 0)
            self.passes(row, floor)
            self.passes(put(row, 9, 1), floor)
            self.fails(put(row, 9, cells + 1), 9, floor)
            self.fails(put(row, 9, cells * 2 + 1), 9, floor)

    def test_pieces_of_every_set_of_small_floors(self):
        for floor in ((1, 1), (1, 4), (4, 1), (2, 3), (3, 2), (3, 3)):
            for cells in all_sets(floor):
                is_one = len(clumps(floor, cells)) == 1
                for row, place in ((put(good("grant"), 4, cells), 4), (put(good("way"), 4, 0, 9, cells, 11, 0), 9)):
                    if is_one:
                        self.passes(row, floor)
                    else:
                        self.fails(row, place, floor)

    def test_cells_that_are_one_piece_on_one_floor_alone(self):
        row = put(good("grant"), 4, bits([3, 4]))
        self.passes(row, (5, 1))
        self.passes(row, (1, 5))
        self.fails(row, 4, (4, 2))
        self.passes(put(row, 4, bits([0, 4])), (4, 2))
        self.fails(put(row, 4, bits([0, 4])), 4, (2, 4))

    def test_corners_alone_are_no_piece(self):
        floor, cells = drawn(".#", "#.")
        self.assertEqual(numbers(cells), [0, 3])
        self.fails(put(good("grant"), 4, cells), 4, floor)

    def test_the_place_of_a_line_goes_beyond_the_floor(self):
        for floor in FLOORS:
            for place in range(9):
                self.passes(put(good("cut"), 4, 0, 6, place), floor)
            self.fails(put(good("cut"), 4, 0, 6, 9), 6, floor)


if __name__ == "__main__":
    unittest.main()
