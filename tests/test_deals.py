import unittest

from landroll.deals import Give, Lay, paper_of
from landroll.deeds import Cut, Grant, Join, Lift, Waive
from landroll.papers import Paper, replaced, waste_of
from tests.helper import (
    BIG, FLOORS, KINDS, NAMES, Mix, answer, bits, burden, does_due, done_of, due, falls_due, mixed_plots,
    mixed_row, mixed_told, plot_of, strips_from,
)

FLOOR = (4, 3)
WHOLE = (("ann", (1, 1)),)
HALVES = (("ann", (1, 2)), ("bob", (1, 2)))
THREE = (("ann", (1, 2)), ("bob", (1, 3)), ("cid", (1, 6)))
ALL = ("ann", "bob", "cid", "dot", "eve", "zoe")
# A share as fine as may be, near one, whose third is too fine.
FINE = (("ann", (BIG - 3, BIG)), ("bob", (3, BIG)))
CELLS = bits([0, 1, 4])
A, B = burden(11, "debt", "cid", 500), burden(12, "way", "dot")
BUY, NOTE, LATER = burden(13, "buy", "eve", 9), burden(14, "note", "zoe", 7, 39), burden(15, "note", "dot", 7, 40)
DEBTS = tuple(burden(number, "debt", "cid") for number in range(31, 44))


def plot(some, shares=WHOLE, last=1, columns=None):
    """A plot of some cells, each with its column where one is told."""
    columns = columns or {}
    return (bits(some), shares, strips_from({cell: columns.get(cell, ()) for cell in some}), last)


def home(shares=HALVES, last=1, *some):
    """The plot of the cells 0, 1 and 4 with these columns."""
    return plot([0, 1, 4], shares, last, dict(zip([0, 1, 4], some)))


# Plots that no paper here has to do with.
BESIDE = [plot([3, 7], HALVES, 101, {3: (BUY, NOTE)}), plot([11], THREE, 102)]


class Deals(unittest.TestCase):
    """What the other tests here hold papers against."""

    def told(self, paper, plots, want, told):
        for some in (plots, BESIDE + plots):
            self.assertEqual(done_of(self, FLOOR, paper, some, told), want)
            self.assertEqual(due(FLOOR, paper.row(), some, told), want)
            if told is None:
                self.assertEqual(done_of(self, FLOOR, paper, some), want)

    def stands(self, paper, before, made, told=None, losses=()):
        self.told(paper, [before], does_due([before], [made], losses), told)
        self.assertEqual(paper.done(FLOOR, [before], told), ((before,), (made,), tuple(losses)))

    def falls(self, paper, plots, word, who="", told=None):
        self.told(paper, plots, falls_due(word, who), told)


class Classes(Deals):
    def test_a_give(self):
        paper = Give(7, 40, ("ann",), 5, "ann", "cid", (1, 3), 32, 30)
        fields = {"number": 7, "since": 40, "signed": ("ann",), "at": 5, "giver": "ann", "taker": "cid", "part": (1, 3),
                  "ground": 32, "trust": 30}
        self.assertEqual({name: getattr(paper, name) for name in fields}, fields)
        self.assertEqual(paper.row(), ("give", 7, 40, ("ann",), 5, "ann", "cid", (1, 3), 32, 30))

    def test_a_lay(self):
        paper = Lay(7, 40, ("ann",), 5, "way", "cid", 500, 0, 48, 12, 112, 30)
        fields = {"number": 7, "since": 40, "signed": ("ann",), "at": 5, "kind": "way", "holder": "cid", "amount": 500,
                  "until": 0, "over": 48, "note": 12, "ground": 112, "trust": 30}
        self.assertEqual({name: getattr(paper, name) for name in fields}, fields)
        self.assertEqual(paper.row(), ("lay", 7, 40, ("ann",), 5, "way", "cid", 500, 0, 48, 12, 112, 30))
        paper = Lay(8, 41, (), 5, "note", "cid", 0, 90, 0, 0, 0, None)
        self.assertEqual(paper.row(), ("lay", 8, 41, (), 5, "note", "cid", 0, 90, 0, 0, 0, None))

    def test_the_defaults(self):
        row = ("give", 7, 40, (), 5, "ann", "cid", (1, 3), 0, None)
        self.assertEqual(Give(*row[1:8]).row(), row)
        self.assertEqual(Give(*row[1:8], 32).row(), row[:8] + (32, None))
        paper = Give(*row[1:8])
        self.assertEqual((paper.ground, paper.trust), (0, None))
        row = ("lay", 7, 40, (), 5, "debt", "cid", 500, 0, 0, 0, 0, None)
        self.assertEqual(Lay(*row[1:8]).row(), row)
        more = (90, 48, 12, 112, 30)
        for many in range(6):
            self.assertEqual(Lay(*row[1:8], *more[:many]).row(), row[:8] + more[:many] + row[8 + many:])
        paper = Lay(*row[1:8])
        self.assertEqual((paper.until, paper.over, paper.note, paper.ground, paper.trust), (0, 0, 0, 0, None))

    def test_reads_key_and_wanting(self):
        for paper in (Give(7, 40, ("ann",), 5, "ann", "cid", (1, 3), 48), Lay(7, 40, ("ann",), 5, "debt", "cid", 500),
                      Lay(7, 40, ("ann",), 5, "way", "cid", 500, 0, 48, 0, 112)):
            self.assertIsInstance(paper, Paper)
            self.assertEqual(paper.reads(), [5])
            self.assertIs(type(paper.reads()), list)
            paper.reads().clear()
            self.assertEqual(paper.reads(), [5])
            self.assertEqual(paper.key(), (40, 7))
            self.assertIs(type(paper.row()), tuple)
            self.assertEqual(paper.wanting(["ann", "cid"]), "cid")


class PaperOf(Deals):
    CLASSES = {"grant": Grant, "cut": Cut, "join": Join, "give": Give, "lay": Lay, "lift": Lift, "waive": Waive}

    def same(self, row):
        paper = paper_of(row)
        self.assertIs(type(paper), self.CLASSES[row[0]])
        self.assertEqual(paper.row(), row)
        self.assertIs(type(paper.row()), tuple)
        self.assertEqual(paper.key(), (row[2], row[1]))
        self.assertEqual((paper.number, paper.since, paper.signed), row[1:4])

    def test_a_row_of_each_kind(self):
        first = (7, 40, ("ann", "bob"))
        for row in (
            ("grant",) + first + (35, HALVES), ("cut",) + first + (5, "y", 2), ("join",) + first + (9, 5),
            ("give",) + first + (5, "ann", "cid", (1, 3), 32, 30),
            ("give",) + first + (5, "ann", "cid", (1, 3), 0, None),
            ("lay",) + first + (5, "way", "cid", 500, 0, 48, 12, 112, 30),
            ("lay",) + first + (5, "note", "cid", 0, 90, 0, 0, 0, None), ("lift",) + first + (5, 12),
            ("waive",) + first + (5, 12, 11),
        ):
            self.same(row)

    def test_mixed_ones(self):
        mix = Mix(71)
        for turn in range(100):
            floor = mix.one_of(FLOORS[1:])
            for kind in KINDS:
                self.same(mixed_row(mix, floor, mixed_plots(mix, floor), kind))


class Gives(Deals):
    def test_a_part_to_an_owner_and_to_a_new_name(self):
        before = home(HALVES, 1, (A, B), (A,))
        made = home((("ann", (1, 4)), ("bob", (3, 4))), 7, (A, B), (A,))
        self.stands(Give(7, 40, ("ann",), 0, "ann", "bob", (1, 4)), before, made)
        made = home((("ann", (1, 6)), ("bob", (1, 2)), ("cid", (1, 3))), 7, (A, B), (A,))
        self.stands(Give(7, 40, ("ann",), 4, "ann", "cid", (1, 3)), before, made)

    def test_the_whole_share(self):
        before = home(HALVES)
        self.stands(Give(7, 40, ("ann",), 1, "ann", "bob", (1, 2)), before, home((("bob", (1, 1)),), 7))
        self.stands(Give(7, 40, ("ann",), 1, "ann", "zoe", (1, 2)), before, home((("bob", (1, 2)), ("zoe", (1, 2))), 7))
        self.stands(Give(7, 40, ("ann",), 1, "ann", "zoe", (1, 1)), home(WHOLE), home((("zoe", (1, 1)),), 7))

    def test_with_the_plots_ground(self):
        before = home(HALVES)
        made = home((("bob", (1, 1)),), 7)
        for trust in (None, 0, 39, 10 ** 9):
            self.stands(Give(7, 40, ("ann",), 1, "ann", "bob", (1, 2), CELLS, trust), before, made)

    def test_neither_taker_nor_other_owners_sign(self):
        before = home(THREE, 1, (A, B))
        self.assertEqual(answer(FLOOR, Give(7, 40, ("bob",), 0, "bob", "dot", (1, 3)), [before])[0], "stands")

    def test_waste(self):
        self.falls(Give(7, 40, ALL, 5, "ann", "bob", (1, 2)), [], "waste")
        self.falls(Give(7, 40, ALL, 5, "ann", "bob", (1, 2)), [home()], "waste")
        self.falls(Give(7, 40, ALL, 5, "ann", "bob", (1, 2), 32, 3), [home()], "waste")

    def test_other(self):
        for ground in (1, bits([0, 1]), bits([0, 1, 4, 5]), bits([0, 5]), bits(range(12))):
            self.falls(Give(7, 40, ALL, 0, "ann", "bob", (1, 2), ground), [home()], "other")

    def test_sign(self):
        before = [home(THREE, 1, (LATER, BUY), (A,))]
        for signed, who in (
            ((), "ann"), (("bob", "dot", "eve"), "ann"), (("ann",), "eve"), (("ann", "dot"), "eve"),
            (("ann", "eve"), "dot"), (("ann", "bob", "cid"), "eve"),
        ):
            self.falls(Give(7, 40, signed, 0, "ann", "bob", (1, 2)), before, "sign", who)
        made = home((("bob", (5, 6)), ("cid", (1, 6))), 7, (LATER, BUY), (A,))
        self.stands(Give(7, 40, ("ann", "dot", "eve"), 4, "ann", "bob", (1, 2)), before[0], made)

    def test_the_giver_signs_first_whoever_it_is(self):
        before = [home((("zoe", (1, 1)),), 1, (burden(13, "buy", "ann"),))]
        self.falls(Give(7, 40, (), 0, "zoe", "bob", (1, 2)), before, "sign", "zoe")
        self.falls(Give(7, 40, ("zoe",), 0, "zoe", "bob", (1, 2)), before, "sign", "ann")
        self.falls(Give(7, 40, (), 0, "eve", "bob", (1, 2)), before, "sign", "eve")

    def test_the_holders_sign_by_the_burdens_numbers(self):
        some = (burden(23, "buy", "ann"), burden(21, "note", "zoe", 0, 50), burden(22, "buy", "moe"))
        before = [home((("gus", (1, 1)),), 1, some[:1], some[1:], (A,))]
        for signed, who in (
            (("gus",), "zoe"), (("gus", "zoe"), "moe"), (("gus", "moe", "zoe"), "ann"), (("ann", "gus", "zoe"), "moe"),
            (("ann", "gus", "moe"), "zoe"),
        ):
            self.falls(Give(7, 40, signed, 4, "gus", "bob", (1, 2)), before, "sign", who)
        paper = Give(7, 40, ("ann", "gus", "moe", "zoe"), 4, "gus", "bob", (1, 2))
        self.assertEqual(answer(FLOOR, paper, before)[0], "stands")

    def test_of_a_note_the_until_is_asked(self):
        for until in (0, 1, 40, 90, 10 ** 9):
            before = home(HALVES, 1, (), (burden(14, "note", "zoe", 7, until),))
            for since in (0, until - 1, until, until + 1, 10 ** 9):
                if 0 <= since <= 10 ** 9:
                    paper = Give(7, since, ("ann",), 0, "ann", "bob", (1, 2))
                    if until >= since:
                        self.falls(paper, [before], "sign", "zoe")
                    else:
                        self.stands(paper, before, (before[0], (("bob", (1, 1)),), before[2], 7))

    def test_debts_and_ways_are_not_asked(self):
        before = home(HALVES, 1, (A, B), (B,), (burden(16, "way", "zoe", 1, 0), burden(17, "debt", "eve", 1, 0)))
        for since in (0, 40, 10 ** 9):
            made = (before[0], (("bob", (1, 1)),), before[2], 7)
            self.stands(Give(7, since, ("ann",), 0, "ann", "bob", (1, 2)), before, made)

    def test_a_holder_who_is_the_taker(self):
        before = home(HALVES, 1, (BUY, burden(16, "note", "eve", 7, 90)))
        made = (before[0], (("bob", (1, 2)), ("eve", (1, 2))), before[2], 7)
        self.stands(Give(7, 40, ("ann",), 0, "ann", "eve", (1, 2)), before, made)
        self.falls(Give(7, 40, ("ann",), 0, "ann", "dot", (1, 2)), [before], "sign", "eve")

    def test_a_holder_who_is_the_giver(self):
        before = home(HALVES, 1, (burden(13, "buy", "ann"),))
        made = (before[0], (("bob", (1, 1)),), before[2], 7)
        self.stands(Give(7, 40, ("ann",), 0, "ann", "bob", (1, 2)), before, made)

    def test_burdens_on_other_plots_are_not_asked(self):
        before = home()
        self.assertEqual(answer(FLOOR, Give(7, 30, ("ann",), 0, "ann", "bob", (1, 2)), BESIDE + [before])[0], "stands")

    def test_share(self):
        self.falls(Give(7, 40, ALL, 0, "ann", "bob", (51, 100)), [home()], "share")
        self.falls(Give(7, 40, ALL, 0, "ann", "bob", (1, 1)), [home()], "share")
        self.falls(Give(7, 40, ALL, 0, "cid", "bob", (1, 10 ** 9)), [home()], "share")
        self.falls(Give(7, 40, ALL, 0, "cid", "dot", (1, 2)), [home()], "share")

    def test_fine(self):
        self.falls(Give(7, 40, ALL, 0, "ann", "bob", (1, 3)), [home(FINE)], "fine")
        self.falls(Give(7, 40, ALL, 0, "ann", "cid", (1, 3)), [home(FINE)], "fine")
        shares = (("ann", (BIG // 2 - 3, BIG)), ("bob", (3, BIG)), ("cid", (1, 2)))
        self.stands(Give(7, 40, ALL, 0, "ann", "cid", (1, 2)), home(FINE), home(shares, 7))

    def test_two_words_at_once(self):
        self.falls(Give(7, 40, (), 5, "dot", "bob", (1, 1), 33), [home()], "waste")
        self.falls(Give(7, 40, (), 0, "ann", "bob", (1, 2), 1), [home()], "other")
        self.falls(Give(7, 40, ALL, 0, "ann", "bob", (1, 1), 1), [home()], "other")
        self.falls(Give(7, 40, ALL, 0, "ann", "bob", (1, 3), 1), [home(FINE)], "other")
        self.falls(Give(7, 40, (), 0, "dot", "bob", (1, 2)), [home()], "sign", "dot")
        self.falls(Give(7, 40, ("ann",), 0, "ann", "bob", (1, 1)), [home(HALVES, 1, (BUY,))], "sign", "eve")
        self.falls(Give(7, 40, (), 0, "ann", "bob", (1, 3)), [home(FINE)], "sign", "ann")
        self.falls(Give(7, 40, ALL, 0, "bob", "ann", (1, 3)), [home(FINE)], "share")


class GivesTold(Deals):
    def test_the_giver_holds_the_part(self):
        before = home(THREE, 1, (A, B))
        made = home((("ann", (1, 4)), ("bob", (1, 3)), ("cid", (1, 6)), ("dot", (1, 4))), 7, (A, B))
        for told in ((), (11,), (77,), (11, 12)):
            self.stands(Give(7, 40, ("ann",), 0, "ann", "dot", (1, 4)), before, made, told)
        made = home((("bob", (5, 6)), ("cid", (1, 6))), 7, (A, B))
        self.stands(Give(7, 40, ("ann",), 0, "ann", "bob", (1, 2)), before, made, ())

    def test_the_giver_holds_less(self):
        before = home(THREE, 1, (A, B))
        made = home((("bob", (1, 6)), ("cid", (1, 12)), ("dot", (3, 4))), 7, (A, B))
        losses = [("share", "bob", (1, 6)), ("share", "cid", (1, 12))]
        self.stands(Give(7, 40, ("ann",), 0, "ann", "dot", (3, 4)), before, made, (), losses)
        self.stands(Give(7, 40, ALL, 0, "ann", "dot", (3, 4)), before, made, (77,), losses)
        made = home((("bob", (11, 12)), ("cid", (1, 12))), 7, (A, B))
        self.stands(Give(7, 40, ALL, 0, "ann", "bob", (7, 12)), before, made, (), [("share", "cid", (1, 12))])

    def test_the_giver_holds_nothing(self):
        before = home(HALVES)
        made = home((("ann", (1, 4)), ("bob", (1, 4)), ("dot", (1, 2))), 7)
        losses = [("share", "ann", (1, 4)), ("share", "bob", (1, 4))]
        self.stands(Give(7, 40, ("cid",), 0, "cid", "dot", (1, 2)), before, made, (), losses)
        made = home((("bob", (1, 1)),), 7)
        self.stands(Give(7, 40, ("cid",), 0, "cid", "bob", (1, 1)), before, made, (), [("share", "ann", (1, 2))])
        made = home((("ann", (1, 1)),), 7)
        self.stands(Give(7, 40, ("cid",), 0, "cid", "ann", (1, 1)), home(WHOLE), made, ())

    def test_nothing_told_is_another_thing(self):
        paper = Give(7, 40, ("cid",), 0, "cid", "dot", (1, 2))
        self.falls(paper, [home()], "share", "", None)
        self.assertEqual(answer(FLOOR, paper, [home()], ())[0], "stands")

    def test_holders_who_have_to_agree_lose_a_right(self):
        before = home(HALVES, 1, (LATER, BUY), (NOTE, A), (B,))
        made = (before[0], (("bob", (1, 1)),), before[2], 7)
        for signed, since, losses in (
            (("ann",), 40, [("right", "eve", 13), ("right", "dot", 15)]),
            (("ann", "eve"), 40, [("right", "dot", 15)]),
            (("ann", "dot"), 40, [("right", "eve", 13)]),
            (("ann", "dot", "eve"), 40, []),
            (("ann",), 41, [("right", "eve", 13)]),
            (("ann",), 39, [("right", "eve", 13), ("right", "zoe", 14), ("right", "dot", 15)]),
            (("ann", "dot"), 0, [("right", "eve", 13), ("right", "zoe", 14)]),
        ):
            self.stands(Give(7, since, signed, 0, "ann", "bob", (1, 2)), before, made, (13, 14), losses)
        made = (before[0], (("bob", (1, 2)), ("eve", (1, 2))), before[2], 7)
        self.stands(Give(7, 40, ("ann",), 0, "ann", "eve", (1, 2)), before, made, (), [("right", "dot", 15)])

    def test_one_holder_of_several_and_an_owner_who_is_a_holder(self):
        some = (burden(23, "buy", "bob"), burden(21, "buy", "zoe"), burden(22, "note", "bob", 0, 50))
        before = home(HALVES, 1, some)
        made = (before[0], (("bob", (1, 4)), ("cid", (3, 4))), before[2], 7)
        losses = [("share", "bob", (1, 4)), ("right", "zoe", 21), ("right", "bob", 22), ("right", "bob", 23)]
        self.stands(Give(7, 40, ("ann",), 0, "ann", "cid", (3, 4)), before, made, (), losses)

    def test_the_shares_come_ahead_of_the_rights(self):
        before = home((("yan", (1, 2)), ("zoe", (1, 2))), 1, (burden(13, "buy", "ann"),))
        made = (before[0], (("dot", (1, 1)),), before[2], 7)
        losses = [("share", "yan", (1, 2)), ("share", "zoe", (1, 2)), ("right", "ann", 13)]
        self.stands(Give(7, 40, ("cid",), 0, "cid", "dot", (1, 1)), before, made, (), losses)

    def test_falls(self):
        for told in ((), (13,), (77,)):
            self.falls(Give(7, 40, ALL, 5, "ann", "bob", (1, 2)), [home()], "waste", "", told)
            self.falls(Give(7, 40, ALL, 0, "ann", "bob", (1, 2), 1), [home()], "other", "", told)
            self.falls(Give(7, 40, (), 0, "ann", "bob", (1, 2)), [home(HALVES, 1, (BUY,))], "sign", "ann", told)
            self.falls(Give(7, 40, ("bob",), 0, "dot", "bob", (1, 2)), [home()], "sign", "dot", told)
            self.falls(Give(7, 40, ALL, 0, "ann", "bob", (1, 3)), [home(FINE)], "fine", "", told)
            self.falls(Give(7, 40, ALL, 0, "cid", "dot", (1, 3)), [home(FINE)], "fine", "", told)

    def test_two_words_at_once(self):
        self.falls(Give(7, 40, (), 5, "ann", "bob", (1, 3), 33), [home(FINE)], "waste", "", ())
        self.falls(Give(7, 40, (), 0, "ann", "bob", (1, 3), 1), [home(FINE)], "other", "", ())
        self.falls(Give(7, 40, ALL, 0, "ann", "bob", (1, 3), 1), [home(FINE)], "other", "", ())
        self.falls(Give(7, 40, ("bob",), 0, "ann", "bob", (1, 3)), [home(FINE)], "sign", "ann", ())


class Lays(Deals):
    def test_each_kind_at_the_end_of_all_columns(self):
        before = home(HALVES, 1, (A, B), (B,))
        for kind, amount, until in (("debt", 500, 0), ("buy", 0, 0), ("note", 10 ** 12, 90), ("note", 1, 0)):
            new = (7, kind, "dot", amount, until)
            made = home(HALVES, 7, (A, B, new), (B, new), (new,))
            self.stands(Lay(7, 40, ("ann", "bob"), 1, kind, "dot", amount, until), before, made)
            self.stands(Lay(7, 40, ALL, 1, kind, "dot", amount, until, 0, 0, CELLS, 3), before, made)

    def test_a_way_on_some_cells(self):
        before = home(HALVES, 1, (A, B), (B,))
        new = (7, "way", "dot", 500, 0)
        for over, some in (
            ([0], ((A, B, new), (B,), ())), ([1], ((A, B), (B, new), ())), ([0, 4], ((A, B, new), (B,), (new,))),
            ([0, 1, 4], ((A, B, new), (B, new), (new,))),
        ):
            self.stands(Lay(7, 40, ALL, 4, "way", "dot", 500, 0, bits(over)), before, home(HALVES, 7, *some))

    def test_an_owner_may_be_the_holder(self):
        column = ((7, "debt", "ann", 1, 0),)
        self.stands(Lay(7, 40, ("ann",), 0, "debt", "ann", 1), home(WHOLE), home(WHOLE, 7, column, column, column))

    def test_a_note_is_filled(self):
        before = home(HALVES, 1, (A, LATER, B), (LATER,), (B,))
        new = (7, "debt", "dot", 500, 0)
        made = home(HALVES, 7, (A, new, B), (new,), (B, new))
        self.stands(Lay(7, 40, ("ann", "bob"), 0, "debt", "dot", 500, 0, 0, 15), before, made)
        new = (7, "buy", "dot", 500, 0)
        made = home(HALVES, 7, (A, new, B), (new,), (B, new))
        self.stands(Lay(7, 0, ("ann", "bob"), 0, "buy", "dot", 500, 0, 0, 15, CELLS), before, made)

    def test_a_note_is_filled_by_a_way(self):
        before = home(HALVES, 1, (A, LATER, B), (LATER,), (B,))
        new = (7, "way", "dot", 0, 0)
        for over, some in (
            ([0], ((A, new, B), (), (B,))), ([1], ((A, B), (new,), (B,))), ([4], ((A, B), (), (B, new))),
            ([0, 1], ((A, new, B), (new,), (B,))), ([0, 4], ((A, new, B), (), (B, new))),
        ):
            self.stands(Lay(7, 40, ALL, 0, "way", "dot", 0, 0, bits(over), 15), before, home(HALVES, 7, *some))

    def test_waste(self):
        self.falls(Lay(7, 40, ALL, 5, "debt", "dot", 500), [], "waste")
        self.falls(Lay(7, 40, ALL, 5, "debt", "dot", 500), [home()], "waste")
        self.falls(Lay(7, 40, ALL, 5, "way", "dot", 500, 0, 32, 0, 32), [home()], "waste")

    def test_other(self):
        for ground in (1, bits([0, 1]), bits([0, 1, 4, 5]), bits([0, 5]), bits(range(12))):
            self.falls(Lay(7, 40, ALL, 0, "debt", "dot", 500, 0, 0, 0, ground), [home()], "other")

    def test_over(self):
        for over in ([5], [1, 5], [0, 1, 2], [8], [3], range(12)):
            self.falls(Lay(7, 40, ALL, 0, "way", "dot", 500, 0, bits(over)), [home()], "over")
            self.falls(Lay(7, 40, ALL, 0, "way", "dot", 500, 0, bits(over), 0, CELLS), [home()], "over")

    def test_note(self):
        before = [home(HALVES, 1, (A, LATER, BUY), (NOTE,))]
        wrong = ((77, "dot"), (11, "cid"), (13, "eve"), (15, "cid"), (15, "zoe"), (14, "dot"), (7, "dot"))
        for number, holder in wrong:
            self.falls(Lay(7, 39, ALL, 0, "debt", holder, 500, 0, 0, number), before, "note")
            self.falls(Lay(7, 39, ALL, 0, "way", holder, 500, 0, 1, number), before, "note")
        self.falls(Lay(7, 39, ALL, 0, "debt", "dot", 500, 0, 0, 15), [home()], "note")
        way, debt = burden(16, "way", "dot", 0, 0), burden(17, "debt", "dot", 0, 0)
        for number in (16, 17):
            self.falls(Lay(7, 0, ALL, 0, "debt", "dot", 5, 0, 0, number), [home(HALVES, 1, (way, debt))], "note")

    def test_a_note_elsewhere_is_none_on_the_plot(self):
        self.falls(Lay(7, 0, ALL, 0, "debt", "zoe", 500, 0, 0, 14), BESIDE + [home()], "note")

    def test_of_a_note_the_until_is_asked(self):
        for until in (0, 40, 10 ** 9):
            note = burden(15, "note", "dot", 7, until)
            before = home(HALVES, 1, (note,), (note,), (note,))
            for since in (0, until - 1, until, until + 1, 10 ** 9):
                if 0 <= since <= 10 ** 9:
                    paper = Lay(7, since, ALL, 0, "debt", "dot", 500, 0, 0, 15)
                    if until < since:
                        self.falls(paper, [before], "note")
                    else:
                        self.stands(paper, before, home(HALVES, 7, *[((7, "debt", "dot", 500, 0),)] * 3))

    def test_sign(self):
        before = [home(THREE, 1, (LATER, BUY))]
        for signed, who in (
            ((), "ann"), (("ann",), "bob"), (("bob", "cid"), "ann"), (("ann", "cid"), "bob"), (("ann", "bob"), "cid"),
            (("dot", "eve", "zoe"), "ann"),
        ):
            self.falls(Lay(7, 40, signed, 0, "debt", "dot", 500), before, "sign", who)
            self.falls(Lay(7, 40, signed, 0, "way", "dot", 500, 0, 1), before, "sign", who)
            self.falls(Lay(7, 40, signed, 0, "debt", "dot", 500, 0, 0, 15), before, "sign", who)
        self.assertEqual(answer(FLOOR, Lay(7, 40, ("ann", "bob", "cid"), 0, "debt", "zoe", 500), before)[0], "stands")

    def test_a_plot_of_more_owners_than_can_sign_is_not_burdened(self):
        names = tuple("abcdefghijklm")
        before = home(tuple((name, (1, 13)) for name in names))
        self.falls(Lay(7, 40, names[:12], 0, "debt", "dot", 500), [before], "sign", "m")
        self.falls(Lay(7, 40, names[1:], 0, "debt", "dot", 500), [before], "sign", "a")

    def test_the_twelfth_and_the_thirteenth(self):
        new = (7, "debt", "dot", 500, 0)
        before = home(HALVES, 1, (A,), DEBTS[:11])
        self.stands(Lay(7, 40, ALL, 0, *new[1:]), before, home(HALVES, 7, (A, new), DEBTS[:11] + (new,), (new,)))
        before = home(HALVES, 1, (A,), DEBTS[:12])
        self.falls(Lay(7, 40, ALL, 0, *new[1:]), [before], "many")
        self.falls(Lay(7, 40, ALL, 1, "note", "dot", 500, 90), [before], "many")
        self.falls(Lay(7, 40, ALL, 0, "way", "dot", 500, 0, bits([0, 1])), [before], "many")
        new = (7, "way", "dot", 500, 0)
        made = home(HALVES, 7, (A, new), DEBTS[:12], (new,))
        self.stands(Lay(7, 40, ALL, 1, "way", "dot", 500, 0, bits([0, 4])), before, made)

    def test_the_twelfth_and_the_thirteenth_where_a_note_is_filled(self):
        new = (7, "debt", "dot", 500, 0)
        before = home(HALVES, 1, DEBTS[:11] + (LATER,), (LATER,), DEBTS[:11])
        made = home(HALVES, 7, DEBTS[:11] + (new,), (new,), DEBTS[:11] + (new,))
        self.stands(Lay(7, 40, ALL, 0, *new[1:], 0, 15), before, made)
        before = home(HALVES, 1, (LATER,), (LATER,), DEBTS[:12])
        self.falls(Lay(7, 40, ALL, 0, *new[1:], 0, 15), [before], "many")
        new = (7, "way", "dot", 500, 0)
        self.falls(Lay(7, 40, ALL, 0, "way", "dot", 500, 0, bits([4]), 15), [before], "many")
        made = home(HALVES, 7, (new,), (), DEBTS[:12])
        self.stands(Lay(7, 40, ALL, 0, "way", "dot", 500, 0, bits([0]), 15), before, made)

    def test_a_note_that_is_past_counts_among_the_twelve(self):
        before = home(HALVES, 1, DEBTS[:11] + (burden(14, "note", "zoe", 7, 0),))
        self.falls(Lay(7, 40, ALL, 0, "debt", "dot", 500), [before], "many")
        before = home(HALVES, 1, DEBTS[:11])
        self.assertEqual(answer(FLOOR, Lay(7, 40, ALL, 0, "debt", "dot", 500), [before])[0], "stands")

    def test_two_words_at_once(self):
        deep = home(HALVES, 1, DEBTS[:12])
        self.falls(Lay(7, 40, (), 5, "way", "dot", 500, 0, 64, 77, 33), [home()], "waste")
        self.falls(Lay(7, 40, (), 0, "way", "dot", 500, 0, 64, 77, 1), [home()], "other")
        self.falls(Lay(7, 40, ALL, 0, "way", "dot", 500, 0, 64, 0, 1), [home()], "other")
        self.falls(Lay(7, 40, ALL, 0, "debt", "dot", 500, 0, 0, 77, 1), [home()], "other")
        self.falls(Lay(7, 40, ALL, 0, "way", "dot", 500, 0, 64, 77), [home()], "over")
        self.falls(Lay(7, 40, (), 0, "way", "dot", 500, 0, 64), [home()], "over")
        self.falls(Lay(7, 40, (), 0, "debt", "dot", 500, 0, 0, 77), [home()], "note")
        self.falls(Lay(7, 40, ALL, 0, "debt", "dot", 500, 0, 0, 77), [deep], "note")
        self.falls(Lay(7, 40, ("bob",), 0, "debt", "dot", 500), [deep], "sign", "ann")


class LaysTold(Deals):
    def test_each_kind_behind_the_last_one_told(self):
        before = home(WHOLE, 1, (A, B, BUY), (B, A), (BUY,))
        for kind, until in (("debt", 0), ("buy", 0), ("note", 90)):
            new = (7, kind, "dot", 500, until)
            for told, some, lost in (
                ((), ((new, A, B, BUY), (new, B, A), (new, BUY)), [A, B, BUY]),
                ((11,), ((A, new, B, BUY), (B, A, new), (new, BUY)), [B, BUY]),
                ((12,), ((A, B, new, BUY), (B, new, A), (new, BUY)), [A, BUY]),
                ((13,), ((A, B, BUY, new), (new, B, A), (BUY, new)), [A, B]),
                ((11, 12), ((A, B, new, BUY), (B, A, new), (new, BUY)), [BUY]),
                ((11, 12, 13), ((A, B, BUY, new), (B, A, new), (BUY, new)), []),
                ((5, 77), ((new, A, B, BUY), (new, B, A), (new, BUY)), [A, B, BUY]),
                ((5, 12, 77), ((A, B, new, BUY), (B, new, A), (new, BUY)), [A, BUY]),
            ):
                losses = [("rank", one[2], one[0]) for one in lost]
                self.stands(Lay(7, 40, ("ann",), 0, *new[1:]), before, home(WHOLE, 7, *some), told, losses)

    def test_a_way_overtakes_on_its_own_cells_alone(self):
        before = home(WHOLE, 1, (A, B), (BUY, A), (NOTE,))
        new = (7, "way", "dot", 0, 0)
        for over, some, lost in (
            ([0], ((A, new, B), (BUY, A), (NOTE,)), [B]), ([1], ((A, B), (BUY, A, new), (NOTE,)), []),
            ([0, 4], ((A, new, B), (BUY, A), (new, NOTE)), [B, NOTE]),
        ):
            losses = [("rank", one[2], one[0]) for one in lost]
            paper = Lay(7, 40, ("ann",), 1, "way", "dot", 0, 0, bits(over))
            self.stands(paper, before, home(WHOLE, 7, *some), (11,), losses)

    def test_owners_who_did_not_sign_lose_ground(self):
        new = (7, "debt", "dot", 500, 0)
        before = home(THREE, 1, (B, A))
        made = home(THREE, 7, (new, B, A), (new,), (new,))
        ranks = [("rank", "cid", 11), ("rank", "dot", 12)]
        for signed, names in (
            ((), "ann bob cid"), (("ann",), "bob cid"), (("bob",), "ann cid"), (("ann", "bob", "cid"), ""),
            (("dot", "zoe"), "ann bob cid"),
        ):
            losses = [("ground", name, 7) for name in names.split()] + ranks
            self.stands(Lay(7, 40, signed, 0, *new[1:]), before, made, (), losses)
            self.stands(Lay(7, 40, signed, 0, *new[1:], 0, 0, CELLS, 9), before, made, (), losses)

    def test_a_holder_who_signed_is_told_none_the_less(self):
        new = (7, "debt", "dot", 500, 0)
        before = home(WHOLE, 1, (A,))
        made = home(WHOLE, 7, (new, A), (new,), (new,))
        self.stands(Lay(7, 40, ("ann", "cid"), 0, *new[1:]), before, made, (), [("rank", "cid", 11)])

    def test_nothing_told_is_another_thing(self):
        paper = Lay(7, 40, (), 0, "debt", "dot", 500)
        self.falls(paper, [home()], "sign", "ann", None)
        self.assertEqual(answer(FLOOR, paper, [home()], ())[0], "stands")

    def test_many(self):
        for told in ((), (31,), (31, 42), (77,)):
            before = home(HALVES, 1, (A,), DEBTS[:12])
            self.falls(Lay(7, 40, (), 0, "debt", "dot", 500), [before], "many", "", told)
            self.falls(Lay(7, 40, ALL, 0, "way", "dot", 500, 0, bits([1])), [before], "many", "", told)
            self.assertEqual(answer(FLOOR, Lay(7, 40, (), 0, "way", "dot", 500, 0, 1), [before], told)[0], "stands")
            before = home(HALVES, 1, (A,), DEBTS[:11])
            self.assertEqual(answer(FLOOR, Lay(7, 40, (), 0, "debt", "dot", 500), [before], told)[0], "stands")

    def test_waste_other_and_over(self):
        for told in ((), (11,), (77,)):
            self.falls(Lay(7, 40, ALL, 5, "debt", "dot", 500), [home()], "waste", "", told)
            self.falls(Lay(7, 40, ALL, 0, "debt", "dot", 500, 0, 0, 0, 1), [home()], "other", "", told)
            self.falls(Lay(7, 40, ALL, 0, "way", "dot", 500, 0, 32), [home()], "over", "", told)

    def test_two_words_at_once(self):
        deep = home(HALVES, 1, DEBTS[:12])
        self.falls(Lay(7, 40, (), 5, "way", "dot", 500, 0, 64, 0, 33), [deep], "waste", "", ())
        self.falls(Lay(7, 40, (), 0, "way", "dot", 500, 0, 64, 0, 1), [deep], "other", "", ())
        self.falls(Lay(7, 40, (), 0, "debt", "dot", 500, 0, 0, 0, 1), [deep], "other", "", ())
        self.falls(Lay(7, 40, (), 0, "way", "dot", 500, 0, bits([0, 1, 5])), [deep], "over", "", ())

    def test_a_lay_that_fills_a_note_heeds_nothing(self):
        before = home(HALVES, 1, (A, LATER, B), (LATER,), (B,))
        new = (7, "debt", "dot", 500, 0)
        made = home(HALVES, 7, (A, new, B), (new,), (B, new))
        for told in (None, (), (12,), (15,), (77,), (11, 12, 15)):
            self.stands(Lay(7, 40, ("ann", "bob"), 0, *new[1:], 0, 15), before, made, told)
            self.falls(Lay(7, 40, ("ann",), 0, *new[1:], 0, 15), [before], "sign", "bob", told)
            self.falls(Lay(7, 41, (), 0, *new[1:], 0, 15), [before], "note", "", told)
            deep = home(HALVES, 1, (LATER,), DEBTS[:12])
            self.falls(Lay(7, 40, ALL, 0, *new[1:], 0, 15), [deep], "many", "", told)


class Many(Deals):
    def test_on_mixed_plots(self):
        mix = Mix(72)
        seen = {}
        for turn in range(400):
            floor = mix.one_of(FLOORS[1:])
            plots = mixed_plots(mix, floor)
            for kind in ("give", "lay"):
                row, told = mixed_row(mix, floor, plots, kind), mixed_told(mix)
                want = due(floor, row, plots, told)
                with self.subTest(floor=floor, row=row, plots=plots, told=told):
                    self.assertEqual(done_of(self, floor, paper_of(row), plots, told), want)
                seen[kind, told is not None, want[0]] = True
                for loss in want[4]:
                    seen[loss[0]] = True
        for kind, is_told, words in (
            ("give", False, "waste other sign share stands"), ("give", True, "waste other sign stands"),
            ("lay", False, "waste other over note sign many stands"), ("lay", True, "waste other over many stands"),
        ):
            for word in words.split():
                self.assertIn((kind, is_told, word), seen)
        self.assertLessEqual({"share", "right", "ground", "rank"}, set(seen))

    def test_papers_one_behind_the_other(self):
        """From a floor that is all waste: no cell is lost, and no plot changes that a paper doesn't meet."""
        stood = {}
        for seed in range(81, 89):
            mix = Mix(seed)
            floor, plots = mix.one_of(FLOORS[8:]), []
            for number in range(400, 520):
                waste = waste_of(floor, plots)
                kind = "grant" if number < 404 else mix.one_of(KINDS + ("lay", "lay", "cut", "join"))
                row = mixed_row(mix, floor, plots, kind)
                row = row[:1] + (number, 40) + (mix.one_of((NAMES, row[3])),) + row[4:]
                told = mixed_told(mix)
                want = due(floor, row, plots, told)
                with self.subTest(floor=floor, row=row, plots=plots, told=told):
                    self.assertEqual(done_of(self, floor, paper_of(row), plots, told), want)
                after = replaced(plots, want[2], want[3])
                self.assertEqual(sum(one[0] for one in after) + waste_of(floor, after), 2 ** (floor[0] * floor[1]) - 1)
                self.assertEqual(waste_of(floor, after) | waste, waste)
                met = [plot_of(plots, cell) for cell in paper_of(row).reads()]
                for one in plots:
                    self.assertTrue(one in after or one in met)
                plots = after
                stood[kind, want[0]] = True
        for kind in KINDS:
            self.assertIn((kind, "stands"), stood)


if __name__ == "__main__":
    unittest.main()
