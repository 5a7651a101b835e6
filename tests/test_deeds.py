import unittest

from landroll import deals, deeds
from landroll.deeds import Cut, Grant, Join, Lift, Waive
from landroll.papers import Paper
from tests.helper import (
    BIG, FLOORS, Mix, answer, bits, burden, does_due, done_of, drawn, due, falls_due, mixed_plots, mixed_row,
    mixed_told, strips_from,
)

FLOOR = (4, 3)
WHOLE = (("ann", (1, 1)),)
HALVES = (("ann", (1, 2)), ("bob", (1, 2)))
THREE = (("ann", (1, 2)), ("bob", (1, 3)), ("cid", (1, 6)))
ALL = ("ann", "bob", "cid", "dot", "eve")
# A share as fine as may be, near one, whose third is too fine.
FINE = (("ann", (BIG - 3, BIG)), ("bob", (3, BIG)))
A, B = burden(11, "debt", "cid", 500), burden(12, "way", "dot")
C, D = burden(13, "buy", "eve"), burden(14, "note", "cid", 7, 90)
# What a paper that heeds nothing may be told.
TOLDS = (None, (), (11,), (14, 77), (11, 12, 13, 14))


def plot(some, shares=WHOLE, last=1, columns=None):
    """A plot of some cells, each with its column where one is told."""
    columns = columns or {}
    return (bits(some), shares, strips_from({cell: columns.get(cell, ()) for cell in some}), last)


# Plots that no paper here has to do with.
BESIDE = [plot([3, 7], HALVES, 101, {3: (A, B)}), plot([11], THREE, 102)]


class Deeds(unittest.TestCase):
    """What the other tests here hold papers against."""

    def told(self, paper, plots, want, floor=FLOOR):
        """Holds what a paper of these does, told something and told nothing, and with other plots beside."""
        for told in TOLDS:
            self.assertEqual(done_of(self, floor, paper, plots, told), want)
        self.assertEqual(done_of(self, floor, paper, plots), want)
        self.assertEqual(due(floor, paper.row(), plots), want)

    def stands(self, paper, plots, gone, made, floor=FLOOR):
        self.told(paper, plots, does_due(gone, made), floor)
        self.assertEqual(paper.done(floor, plots), (tuple(gone), tuple(made), ()))

    def falls(self, paper, plots, word, who="", floor=FLOOR):
        self.told(paper, plots, falls_due(word, who), floor)


class Classes(Deeds):
    def test_fields_reads_row_and_key(self):
        for paper, fields, reads, row in (
            (Grant(7, 40, ("ann",), 35, HALVES), {"cells": 35, "shares": HALVES}, [0, 1, 5],
             ("grant", 7, 40, ("ann",), 35, HALVES)),
            (Cut(7, 40, ("ann",), 5, "y", 2), {"at": 5, "axis": "y", "place": 2}, [5],
             ("cut", 7, 40, ("ann",), 5, "y", 2)),
            (Join(7, 40, ("ann",), 9, 5), {"at": 9, "other": 5}, [9, 5], ("join", 7, 40, ("ann",), 9, 5)),
            (Lift(7, 40, ("ann",), 5, 12), {"at": 5, "burden": 12}, [5], ("lift", 7, 40, ("ann",), 5, 12)),
            (Waive(7, 40, ("ann",), 5, 12, 11), {"at": 5, "burden": 12, "ahead": 11}, [5],
             ("waive", 7, 40, ("ann",), 5, 12, 11)),
        ):
            with self.subTest(row=row):
                self.assertIsInstance(paper, Paper)
                for name, thing in dict(fields, number=7, since=40, signed=("ann",)).items():
                    self.assertEqual(getattr(paper, name), thing)
                self.assertEqual(paper.reads(), reads)
                self.assertIs(type(paper.reads()), list)
                self.assertEqual(paper.row(), row)
                self.assertIs(type(paper.row()), tuple)
                self.assertEqual(paper.key(), (40, 7))
                self.assertEqual(paper.wanting(["ann", "bob"]), "bob")
                self.assertIsNone(paper.wanting(["ann"]))

    def test_what_a_paper_reads_is_the_askers_own(self):
        for paper in (Grant(7, 40, (), 35, HALVES), Cut(7, 40, (), 5, "y", 2), Join(7, 40, (), 9, 5),
                      Lift(7, 40, (), 5, 12), Waive(7, 40, (), 5, 12, 11)):
            before = list(paper.reads())
            paper.reads().clear()
            paper.reads().append(3)
            self.assertEqual(paper.reads(), before)

    def test_a_grant_reads_all_its_cells_rising(self):
        for cells in ([0], [63], range(64), [1, 2, 3, 10], [62, 63, 55]):
            self.assertEqual(Grant(7, 40, (), bits(cells), WHOLE).reads(), sorted(cells))

    def test_none_of_the_seven_is_under_another_one(self):
        classes = [deeds.Grant, deeds.Cut, deeds.Join, deals.Give, deals.Lay, deeds.Lift, deeds.Waive]
        self.assertEqual(len(set(classes)), 7)
        for one in classes:
            self.assertTrue(issubclass(one, Paper))
            self.assertIsNot(one, Paper)
            for other in classes:
                self.assertEqual(issubclass(one, other), one is other)


class Grants(Deeds):
    def test_on_free_ground(self):
        cells = bits([0, 1, 5])
        made = (cells, HALVES, ((cells, ()),), 7)
        self.stands(Grant(7, 40, (), cells, HALVES), [], [], [made])
        self.stands(Grant(7, 40, (), cells, HALVES), BESIDE, [], [made])

    def test_nobody_has_to_sign(self):
        for signed in ((), ("zoe",), ALL):
            self.assertEqual(Grant(7, 40, signed, 1, WHOLE).done(FLOOR, [])[1], ((1, WHOLE, ((1, ()),), 7),))

    def test_right_beside_other_plots_and_on_the_whole_floor(self):
        self.stands(Grant(7, 40, (), bits([2, 6, 10]), THREE), BESIDE, [], [plot([2, 6, 10], THREE, 7)])
        for floor in FLOORS:
            cells = range(floor[0] * floor[1])
            self.stands(Grant(7, 40, (), bits(cells), THREE), [], [], [plot(cells, THREE, 7)], floor)

    def test_taken(self):
        self.falls(Grant(7, 40, (), bits([0, 1, 2, 3]), WHOLE), BESIDE, "taken")
        self.falls(Grant(7, 40, ALL, bits([11]), THREE), BESIDE, "taken")
        self.falls(Grant(7, 40, ALL, bits([2, 3, 7, 11]), THREE), BESIDE, "taken")
        for cell in range(12):
            self.falls(Grant(7, 40, ALL, bits(range(12)), WHOLE), [plot([cell])], "taken")


class Cuts(Deeds):
    def test_two_parts(self):
        before = plot([0, 1, 4, 5], HALVES)
        for axis, place, first, second in (("x", 1, [0, 4], [1, 5]), ("y", 1, [0, 1], [4, 5])):
            made = [plot(first, HALVES, 7), plot(second, HALVES, 7)]
            self.stands(Cut(7, 40, ("ann", "bob"), 5, axis, place), [before], [before], made)
            self.stands(Cut(7, 40, ALL, 0, axis, place), BESIDE + [before], [before], made)

    def test_more_parts_by_their_lowest_cells(self):
        floor, cells = drawn(
            "#.#.#",
            "#####",
        )
        before = (cells, THREE, ((cells, (A,)),), 1)
        made = [(bits(some), THREE, ((bits(some), (A,)),), 7) for some in ([0, 1, 2, 3, 4], [5], [7], [9])]
        self.stands(Cut(7, 40, ALL, 9, "y", 1), [before], [before], made, floor)
        floor, cells = drawn(
            "###",
            "#..",
            "###",
            "#..",
            "###",
        )
        before = (cells, THREE, ((cells, (A,)),), 1)
        made = [(bits(some), THREE, ((bits(some), (A,)),), 7) for some in ([0, 3, 6, 9, 12], [1, 2], [7, 8], [13, 14])]
        self.stands(Cut(7, 40, ALL, 14, "x", 1), [before], [before], made, floor)

    def test_parts_of_both_halves_come_mixed(self):
        floor, cells = drawn(
            "##.##",
            ".###.",
            "##.##",
        )
        before = (cells, WHOLE, ((cells, ()),), 1)
        made = [plot(some, WHOLE, 7) for some in ([0, 1], [3, 4], [6, 7, 8, 10, 11, 13, 14])]
        self.stands(Cut(7, 40, ALL, 7, "y", 1), [before], [before], made, floor)
        made = [plot(some, WHOLE, 7) for some in ([0, 1, 6, 7, 10, 11], [3, 4, 8, 13, 14])]
        self.stands(Cut(7, 40, ALL, 7, "x", 3), [before], [before], made, floor)

    def test_strips_are_kept_on_each_part(self):
        columns = {0: (A, B), 1: (B, A), 4: (A, B), 5: (), 2: (C,)}
        before = plot([0, 1, 2, 4, 5], WHOLE, 1, columns)
        made = [plot([0, 4], WHOLE, 7, columns), plot([1, 2, 5], WHOLE, 7, columns)]
        self.stands(Cut(7, 40, ALL, 2, "x", 1), [before], [before], made)

    def test_a_line_that_touches_one_cell(self):
        before = plot([0, 1, 4, 5], WHOLE)
        for floor in ((4, 3), (4, 2), (4, 8)):
            self.falls(Cut(7, 40, ALL, 0, "x", 0), [before], "line", "", floor)
            self.falls(Cut(7, 40, ALL, 0, "x", 2), [before], "line", "", floor)
            self.falls(Cut(7, 40, ALL, 0, "x", 8), [before], "line", "", floor)
            self.falls(Cut(7, 40, ALL, 0, "y", 0), [before], "line", "", floor)
            self.falls(Cut(7, 40, ALL, 0, "y", 2), [before], "line", "", floor)
        self.falls(Cut(7, 40, ALL, 3, "x", 3), BESIDE, "line")
        self.falls(Cut(7, 40, ALL, 11, "x", 3), BESIDE, "line")

    def test_waste(self):
        self.falls(Cut(7, 40, ALL, 0, "x", 1), [], "waste")
        self.falls(Cut(7, 40, ALL, 0, "x", 1), BESIDE, "waste")

    def test_sign(self):
        before = [plot([0, 1, 4, 5], THREE)]
        for signed, who in (
            ((), "ann"), (("ann",), "bob"), (("bob", "cid"), "ann"), (("ann", "cid"), "bob"), (("ann", "bob"), "cid"),
            (("dot", "eve"), "ann"),
        ):
            self.falls(Cut(7, 40, signed, 0, "x", 1), before, "sign", who)
        self.assertEqual(answer(FLOOR, Cut(7, 40, ("ann", "bob", "cid"), 0, "x", 1), before)[0], "stands")

    def test_holders_need_not_sign(self):
        before = plot([0, 1], WHOLE, 1, {0: (A, B, C, D), 1: (D,)})
        self.assertEqual(answer(FLOOR, Cut(7, 40, ("ann",), 0, "x", 1), [before])[0], "stands")

    def test_two_words_at_once(self):
        self.falls(Cut(7, 40, (), 0, "x", 0), [], "waste")
        self.falls(Cut(7, 40, ("ann",), 0, "x", 0), [plot([0, 1], HALVES)], "sign", "bob")


class Joins(Deeds):
    def test_unlike_sizes_owners_and_strips(self):
        one = plot([0, 1, 2], HALVES, 1, {0: (A,), 1: (A, B)})
        other = plot([4, 5, 6, 8, 9, 10], (("bob", (1, 3)), ("cid", (2, 3))), 2, {4: (A,), 8: (C,)})
        shares = (("ann", (1, 6)), ("bob", (7, 18)), ("cid", (4, 9)))
        columns = {0: (A,), 1: (A, B), 4: (A,), 8: (C,)}
        made = plot([0, 1, 2, 4, 5, 6, 8, 9, 10], shares, 7, columns)
        self.stands(Join(7, 40, ALL, 0, 10), [one, other], [one, other], [made])
        self.stands(Join(7, 40, ALL, 10, 0), [one, other], [other, one], [made])
        self.stands(Join(7, 40, ("ann", "bob", "cid"), 9, 2), BESIDE + [one, other], [other, one], [made])

    def test_of_one_owner_and_of_one_cell_each(self):
        one, other = plot([0], WHOLE, 1), plot([1], WHOLE, 2)
        self.stands(Join(7, 40, ("ann",), 0, 1), [other, one], [one, other], [plot([0, 1], WHOLE, 7)])
        other = plot([4], (("bob", (1, 1)),), 2)
        self.stands(Join(7, 40, ALL, 4, 0), [other, one], [other, one], [plot([0, 4], HALVES, 7)])

    def test_the_first_one_goes_by_its_size(self):
        one, other = plot([0, 1], WHOLE, 1), plot([4], (("bob", (1, 1)),), 2)
        made = plot([0, 1, 4], (("ann", (2, 3)), ("bob", (1, 3))), 7)
        self.stands(Join(7, 40, ALL, 0, 4), [one, other], [one, other], [made])
        self.stands(Join(7, 40, ALL, 4, 1), [one, other], [other, one], [made])

    def test_waste(self):
        one = plot([0, 1])
        self.falls(Join(7, 40, ALL, 0, 4), [one], "waste")
        self.falls(Join(7, 40, ALL, 4, 0), [one], "waste")
        self.falls(Join(7, 40, ALL, 4, 5), [one], "waste")
        self.falls(Join(7, 40, ALL, 4, 5), [], "waste")

    def test_one(self):
        one = plot([0, 1, 2])
        self.falls(Join(7, 40, ALL, 0, 2), [one], "one")
        self.falls(Join(7, 40, ALL, 2, 1), BESIDE + [one], "one")

    def test_sign(self):
        one, other = plot([0], (("bob", (1, 2)), ("dot", (1, 2)))), plot([1], (("ann", (1, 2)), ("cid", (1, 2))), 2)
        for signed, who in (
            ((), "ann"), (("bob", "dot"), "ann"), (("ann", "cid"), "bob"), (("ann", "bob", "dot"), "cid"),
            (("ann", "bob", "cid"), "dot"), (("eve",), "ann"),
        ):
            self.falls(Join(7, 40, signed, 0, 1), [one, other], "sign", who)
            self.falls(Join(7, 40, signed, 1, 0), [one, other], "sign", who)
        self.assertEqual(answer(FLOOR, Join(7, 40, ("ann", "bob", "cid", "dot"), 0, 1), [one, other])[0], "stands")

    def test_apart(self):
        for other in ([2], [5], [11], [8, 9, 10]):
            self.falls(Join(7, 40, ALL, 0, other[0]), [plot([0]), plot(other, WHOLE, 2)], "apart")
        self.falls(Join(7, 40, ALL, 3, 4), [plot([3]), plot([4], WHOLE, 2)], "apart")

    def test_fine(self):
        one, other = plot([0], FINE), plot([1, 2], (("bob", (1, 1)),), 2)
        self.falls(Join(7, 40, ALL, 0, 1), [one, other], "fine")
        self.falls(Join(7, 40, ALL, 1, 0), [one, other], "fine")
        twin = plot([1, 2], FINE, 2)
        self.stands(Join(7, 40, ALL, 0, 1), [one, twin], [one, twin], [plot([0, 1, 2], FINE, 7)])

    def test_as_fine_as_may_be(self):
        half = BIG // 2
        one, other = plot([0], (("ann", (1, half)), ("bob", (half - 1, half)))), plot([1], (("bob", (1, 1)),), 2)
        made = plot([0, 1], (("ann", (1, BIG)), ("bob", (BIG - 1, BIG))), 7)
        self.stands(Join(7, 40, ALL, 0, 1), [one, other], [one, other], [made])
        one = plot([0], (("ann", (1, half + 1)), ("bob", (half, half + 1))))
        self.falls(Join(7, 40, ALL, 0, 1), [one, other], "fine")

    def test_two_words_at_once(self):
        one = plot([0, 1], HALVES)
        self.falls(Join(7, 40, (), 0, 4), [one], "waste")
        self.falls(Join(7, 40, (), 0, 1), [one], "one")
        self.falls(Join(7, 40, ("ann",), 0, 6), [one, plot([6], WHOLE, 2)], "sign", "bob")
        other = plot([2, 6, 10, 9], (("bob", (1, 1)),), 2)
        self.falls(Join(7, 40, ("bob",), 0, 2), [plot([0], FINE), other], "sign", "ann")
        self.falls(Join(7, 40, ALL, 0, 2), [plot([0], FINE), other], "apart")


class ManyOwners(Deeds):
    def test_a_plot_of_more_owners_than_can_sign_is_neither_cut_nor_joined(self):
        names = tuple("abcdefghijklm")
        before = plot([0, 1], tuple((name, (1, 13)) for name in names))
        other = plot([4], WHOLE, 2)
        for lacking in names:
            signed = tuple(name for name in names if name != lacking)
            self.falls(Cut(7, 40, signed, 0, "x", 1), [before], "sign", lacking)
        self.falls(Join(7, 40, names[:12], 0, 4), [before, other], "sign", "ann")
        self.falls(Join(7, 40, ("a", "ann") + names[1:11], 0, 4), [before, other], "sign", "l")


class Lifts(Deeds):
    def test_on_all_cells_and_on_some(self):
        before = plot([0, 1, 2], HALVES, 1, {0: (A, B), 1: (B, A), 2: (B,)})
        made = plot([0, 1, 2], HALVES, 7, {0: (B,), 1: (B,), 2: (B,)})
        self.stands(Lift(7, 40, ("cid",), 0, 11), [before], [before], [made])
        self.stands(Lift(7, 40, ("cid",), 2, 11), BESIDE + [before], [before], [made])
        made = plot([0, 1, 2], HALVES, 7, {0: (A,), 1: (A,)})
        self.stands(Lift(7, 40, ("dot",), 1, 12), [before], [before], [made])

    def test_it_lies_on_the_plot_though_not_at_the_cell(self):
        before = plot([0, 1], HALVES, 1, {1: (D,)})
        self.stands(Lift(7, 40, ("cid",), 0, 14), [before], [before], [plot([0, 1], HALVES, 7)])

    def test_each_kind_and_a_note_that_is_past(self):
        before = plot([0, 1], WHOLE, 1, {0: (A, B, C, D)})
        for one in (A, B, C, D):
            rest = tuple(other for other in (A, B, C, D) if other != one)
            for since in (0, 90, 91, 10 ** 9):
                made = plot([0, 1], WHOLE, 7, {0: rest})
                self.stands(Lift(7, since, (one[2],), 0, one[0]), [before], [before], [made])

    def test_it_goes_from_the_met_plot_alone(self):
        before, other = plot([0, 1], WHOLE, 1, {0: (A,)}), plot([4, 5], WHOLE, 2, {4: (A,)})
        self.stands(Lift(7, 40, ("cid",), 0, 11), [before, other], [before], [plot([0, 1], WHOLE, 7)])
        self.stands(Lift(7, 40, ("cid",), 4, 11), [before, other], [other], [plot([4, 5], WHOLE, 7)])

    def test_waste(self):
        self.falls(Lift(7, 40, ALL, 0, 11), [], "waste")
        self.falls(Lift(7, 40, ALL, 0, 11), BESIDE, "waste")

    def test_burden(self):
        before = plot([0, 1], WHOLE, 1, {0: (A,)})
        for number in (12, 1, 10 ** 9, 7):
            self.falls(Lift(7, 40, ALL, 0, number), BESIDE + [before], "burden")
        self.falls(Lift(7, 40, ALL, 11, 11), BESIDE, "burden")

    def test_sign_is_its_holder(self):
        before = [plot([0, 1], WHOLE, 1, {0: (A, B)})]
        self.falls(Lift(7, 40, (), 0, 11), before, "sign", "cid")
        self.falls(Lift(7, 40, ("ann", "dot"), 0, 11), before, "sign", "cid")
        self.falls(Lift(7, 40, ("ann", "cid"), 0, 12), before, "sign", "dot")

    def test_two_words_at_once(self):
        self.falls(Lift(7, 40, (), 0, 77), [], "waste")
        self.falls(Lift(7, 40, (), 0, 77), [plot([0])], "burden")


class Waives(Deeds):
    def test_one_is_passed(self):
        before = plot([0, 1], HALVES, 1, {0: (A, B), 1: (B, A)})
        made = plot([0, 1], HALVES, 7, {0: (B, A), 1: (B, A)})
        self.stands(Waive(7, 40, ("cid",), 0, 11, 12), [before], [before], [made])
        self.stands(Waive(7, 40, ("cid",), 1, 11, 12), BESIDE + [before], [before], [made])
        made = plot([0, 1], HALVES, 7, {0: (A, B), 1: (A, B)})
        self.stands(Waive(7, 40, ("dot",), 0, 12, 11), [before], [before], [made])

    def test_several_are_passed(self):
        before = plot([0, 1, 2], WHOLE, 1, {0: (A, B, C, D), 1: (C, A, D), 2: (D, A)})
        made = plot([0, 1, 2], WHOLE, 7, {0: (D, A, B, C), 1: (C, D, A), 2: (D, A)})
        self.stands(Waive(7, 40, ("cid", "dot", "eve"), 0, 11, 14), [before], [before], [made])
        made = plot([0, 1, 2], WHOLE, 7, {0: (A, D, B, C), 1: (C, A, D), 2: (D, A)})
        self.stands(Waive(7, 40, ("dot", "eve"), 2, 12, 14), [before], [before], [made])

    def test_neither_owners_nor_the_one_moved_ahead_nor_those_behind_sign(self):
        before = plot([0], HALVES, 1, {0: (D, A, B, C)})
        made = plot([0], HALVES, 7, {0: (D, B, A, C)})
        self.stands(Waive(7, 40, ("cid",), 0, 11, 12), [before], [before], [made])

    def test_waste(self):
        self.falls(Waive(7, 40, ALL, 0, 11, 12), [], "waste")
        self.falls(Waive(7, 40, ALL, 0, 11, 12), BESIDE, "waste")

    def test_burden(self):
        before = [plot([0, 1], WHOLE, 1, {0: (A, B)})] + BESIDE
        for number, ahead in ((11, 77), (77, 12), (77, 78), (13, 11), (12, 7)):
            self.falls(Waive(7, 40, ALL, 0, number, ahead), before, "burden")
            self.falls(Waive(7, 40, ALL, 11, number, ahead), before, "burden")

    def test_rank(self):
        before = plot([0, 1, 2], WHOLE, 1, {0: (A, B), 1: (C,), 2: (A,)})
        for number, ahead in ((12, 11), (11, 13), (13, 11), (12, 13), (13, 12)):
            self.falls(Waive(7, 40, ALL, 0, number, ahead), [before], "rank")

    def test_sign(self):
        before = [plot([0, 1], WHOLE, 1, {0: (C, B, A, D), 1: (D, C)})]
        for signed, who in (
            ((), "cid"), (("cid",), "dot"), (("cid", "dot"), "eve"), (("dot", "eve"), "cid"), (("cid", "eve"), "dot"),
            (("ann",), "cid"),
        ):
            self.falls(Waive(7, 40, signed, 0, 13, 14), before, "sign", who)
        self.assertEqual(answer(FLOOR, Waive(7, 40, ("cid", "dot", "eve"), 0, 13, 14), before)[0], "stands")
        self.falls(Waive(7, 40, ("eve",), 0, 14, 13), before, "sign", "cid")

    def test_those_who_sign_come_by_number_and_not_by_name_or_rank(self):
        one, two, three = burden(21, "debt", "zoe"), burden(22, "debt", "ann"), burden(23, "debt", "moe")
        before = [plot([0], WHOLE, 1, {0: (three, one, two, A)})]
        self.falls(Waive(7, 40, (), 0, 23, 11), before, "sign", "zoe")
        self.falls(Waive(7, 40, ("zoe",), 0, 23, 11), before, "sign", "ann")
        self.falls(Waive(7, 40, ("ann", "zoe"), 0, 23, 11), before, "sign", "moe")

    def test_two_words_at_once(self):
        self.falls(Waive(7, 40, (), 0, 77, 78), [], "waste")
        self.falls(Waive(7, 40, (), 0, 77, 11), [plot([0], WHOLE, 1, {0: (A,)})], "burden")
        self.falls(Waive(7, 40, (), 0, 12, 11), [plot([0], WHOLE, 1, {0: (A, B)})], "rank")


class Many(Deeds):
    def test_on_mixed_plots(self):
        mix = Mix(61)
        seen = {}
        for turn in range(250):
            floor = mix.one_of(FLOORS[1:])
            plots = mixed_plots(mix, floor)
            for kind, made in (("grant", Grant), ("cut", Cut), ("join", Join), ("lift", Lift), ("waive", Waive)):
                row = mixed_row(mix, floor, plots, kind)
                paper, told = made(*row[1:]), mixed_told(mix)
                want = due(floor, row, plots)
                with self.subTest(floor=floor, row=row, plots=plots, told=told):
                    self.assertEqual(paper.row(), row)
                    self.assertEqual(done_of(self, floor, paper, plots, told), want)
                    self.assertEqual(answer(floor, paper, plots), want)
                seen[kind, want[0]] = True
        words = {
            "grant": "taken stands", "cut": "waste sign line stands", "join": "waste one sign apart stands",
            "lift": "waste burden sign stands", "waive": "waste burden rank sign stands",
        }
        for kind in words:
            for word in words[kind].split():
                self.assertIn((kind, word), seen)


if __name__ == "__main__":
    unittest.main()
