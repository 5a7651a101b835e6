import unittest

from landroll.errors import Falls
from landroll.papers import Paper, plot_at, replaced, waste_of
from tests.helper import FLOORS, Mix, bits, burden, falls_due, mixed_plots, numbers, plot_of, refused, strips_from

FLOOR = (4, 2)
WHOLE = (("ann", (1, 1)),)
HALVES = (("ann", (1, 2)), ("bob", (1, 2)))


def plot(some, last, shares=WHOLE, column=()):
    return (bits(some), shares, ((bits(some), column),), last)


LOW = plot([0, 1], 1)
MIDDLE = plot([2, 6], 2, HALVES, (burden(9),))
HIGH = plot([4, 5], 3)


class PlotAt(unittest.TestCase):
    def test_on_plots_and_in_the_waste(self):
        for plots in ([LOW, MIDDLE, HIGH], [HIGH, LOW, MIDDLE], (MIDDLE, HIGH, LOW)):
            found = [plot_at(plots, cell) for cell in range(8)]
            self.assertEqual(found, [LOW, LOW, MIDDLE, None, HIGH, HIGH, MIDDLE, None])

    def test_of_no_plots(self):
        for cell in (0, 1, 63):
            self.assertIsNone(plot_at([], cell))
            self.assertIsNone(plot_at((), cell))

    def test_the_first_and_the_last_cell_of_the_widest_floor(self):
        one, other = plot([0], 1), plot(range(1, 64), 2)
        self.assertEqual(plot_at([one, other], 0), one)
        self.assertEqual(plot_at([one, other], 63), other)
        self.assertIsNone(plot_at([one], 63))

    def test_many(self):
        mix = Mix(41)
        for turn in range(60):
            floor = mix.one_of(FLOORS)
            plots = mixed_plots(mix, floor)
            before = list(plots)
            for cell in range(floor[0] * floor[1]):
                self.assertEqual(plot_at(plots, cell), plot_of(plots, cell))
                self.assertEqual(plot_at(tuple(plots), cell), plot_of(plots, cell))
            self.assertEqual(plots, before)


class Replaced(unittest.TestCase):
    def same(self, plots, gone, made, due):
        for kind in (list, tuple):
            before = list(plots)
            told = replaced(plots, kind(gone), kind(made))
            self.assertIs(type(told), list)
            self.assertEqual(told, due)
            self.assertEqual(plots, before)

    def test_neither_goes_nor_comes(self):
        self.same([], [], [], [])
        self.same([LOW, MIDDLE, HIGH], [], [], [LOW, MIDDLE, HIGH])
        self.same([HIGH, MIDDLE, LOW], [], [], [LOW, MIDDLE, HIGH])

    def test_plots_go(self):
        self.same([LOW, MIDDLE, HIGH], [MIDDLE], [], [LOW, HIGH])
        self.same([HIGH, LOW, MIDDLE], [LOW], [], [MIDDLE, HIGH])
        self.same([LOW, MIDDLE, HIGH], [HIGH, LOW], [], [MIDDLE])
        self.same([LOW, MIDDLE, HIGH], [HIGH, LOW, MIDDLE], [], [])

    def test_plots_come(self):
        self.same([], [], [HIGH, LOW], [LOW, HIGH])
        self.same([LOW, HIGH], [], [MIDDLE], [LOW, MIDDLE, HIGH])
        self.same([MIDDLE], [], [HIGH, LOW], [LOW, MIDDLE, HIGH])

    def test_plots_go_and_come(self):
        parts = [plot([6], 7, HALVES), plot([2], 7, HALVES)]
        self.same([HIGH, LOW, MIDDLE], [MIDDLE], parts, [LOW, parts[1], HIGH, parts[0]])
        whole = plot([0, 1, 4, 5], 8)
        self.same([HIGH, MIDDLE, LOW], [LOW, HIGH], [whole], [whole, MIDDLE])

    def test_a_plot_that_is_equal_goes_though_it_is_another_one(self):
        for one in (LOW, MIDDLE, HIGH):
            twin = (one[0] + 0, tuple(list(one[1])), strips_from(dict.fromkeys(numbers(one[0]), one[2][0][1])), one[3])
            self.assertIsNot(twin, one)
            self.same([HIGH, LOW, MIDDLE], [twin], [], [other for other in (LOW, MIDDLE, HIGH) if other != one])

    def test_a_plot_that_is_not_equal_stays(self):
        for other in (
            plot([0], 1), plot([0, 1, 2], 1), plot([0, 1], 2), plot([0, 1], 1, HALVES),
            plot([0, 1], 1, WHOLE, (burden(9),)),
        ):
            self.same([LOW, HIGH], [other], [], [LOW, HIGH])

    def test_a_plot_that_goes_and_comes_is_there(self):
        self.same([LOW, HIGH], [LOW], [LOW], [LOW, HIGH])
        self.same([HIGH], [LOW], [LOW], [LOW, HIGH])

    def test_by_the_lowest_cell_and_not_by_the_number_of_the_cells(self):
        one, other = plot([0, 4], 1), plot([1, 2], 2)
        self.assertGreater(one[0], other[0])
        self.same([other, one], [], [], [one, other])
        self.same([other], [], [one], [one, other])

    def test_what_is_told_is_the_askers_own(self):
        plots, gone, made = [LOW, HIGH], [HIGH], [MIDDLE]
        told = replaced(plots, gone, made)
        plots.clear()
        gone.append(LOW)
        made.clear()
        self.assertEqual(told, [LOW, MIDDLE])
        plots, made = [LOW, HIGH], [MIDDLE]
        for gone in ([], ()):
            told = replaced(plots, gone, [])
            told.clear()
            self.assertEqual(plots, [LOW, HIGH])
            told = replaced([], gone, made)
            told.clear()
            self.assertEqual(made, [MIDDLE])

    def test_many(self):
        mix = Mix(42)
        for turn in range(200):
            floor = mix.one_of(FLOORS)
            plots = mixed_plots(mix, floor)
            gone = [one for one in plots if mix.below(2)]
            made = [one for one in mixed_plots(mix, floor) if all(one[0] & other[0] == 0 for other in plots)]
            due = [one for one in plots if one not in gone] + made
            self.same(plots, gone, made, sorted(due, key=lambda one: numbers(one[0])[0]))


class Waste(unittest.TestCase):
    def test_none_some_and_all_cells_in_plots(self):
        self.assertEqual(waste_of(FLOOR, []), 255)
        self.assertEqual(waste_of(FLOOR, [LOW]), bits([2, 3, 4, 5, 6, 7]))
        self.assertEqual(waste_of(FLOOR, [HIGH, LOW, MIDDLE]), bits([3, 7]))
        self.assertEqual(waste_of(FLOOR, [HIGH, LOW, MIDDLE, plot([3, 7], 4)]), 0)
        self.assertEqual(waste_of(FLOOR, [plot(range(8), 4)]), 0)

    def test_on_every_floor(self):
        for wide in range(1, 9):
            for high in range(1, 9):
                cells = range(wide * high)
                self.assertEqual(waste_of((wide, high), []), bits(cells))
                self.assertEqual(waste_of((wide, high), [plot([0], 1)]), bits(cells[1:]))
                self.assertEqual(waste_of((wide, high), [plot(cells, 1)]), 0)

    def test_many(self):
        mix = Mix(43)
        for turn in range(100):
            floor = mix.one_of(FLOORS)
            plots = mixed_plots(mix, floor)
            before = list(plots)
            due = [cell for cell in range(floor[0] * floor[1]) if plot_of(plots, cell) is None]
            self.assertEqual(numbers(waste_of(floor, plots)), due)
            self.assertEqual(plots, before)


class Papers(unittest.TestCase):
    def test_its_fields(self):
        paper = Paper(7, 40, ("ann", "bob"))
        self.assertEqual((paper.number, paper.since, paper.signed), (7, 40, ("ann", "bob")))
        paper = Paper(10 ** 9, 0, ())
        self.assertEqual((paper.number, paper.since, paper.signed), (10 ** 9, 0, ()))

    def test_its_key_is_since_then_number(self):
        self.assertEqual(Paper(7, 40, ()).key(), (40, 7))
        self.assertIs(type(Paper(7, 40, ()).key()), tuple)
        papers = [Paper(9, 5, ()), Paper(1, 6, ()), Paper(3, 5, ()), Paper(2, 7, ())]
        ordered = sorted(papers, key=lambda paper: paper.key())
        self.assertEqual([paper.number for paper in ordered], [3, 9, 1, 2])

    def test_wanting_is_the_first_that_did_not_sign(self):
        paper = Paper(7, 40, ("ann", "cid"))
        for names, due in (
            ([], None), (["ann"], None), (["cid", "ann"], None), (["cid", "cid"], None), (["bob"], "bob"),
            (["ann", "bob"], "bob"), (["dot", "bob"], "dot"), (["bob", "dot"], "bob"), (["ann", "dot", "cid"], "dot"),
            (["an"], "an"), (["anna"], "anna"), (["a"], "a"),
        ):
            before = list(names)
            self.assertEqual(paper.wanting(names), due)
            self.assertEqual(names, before)

    def test_wanting_where_nobody_signed(self):
        paper = Paper(7, 40, ())
        self.assertIsNone(paper.wanting([]))
        self.assertEqual(paper.wanting(["zoe", "ann"]), "zoe")

    def test_it_reads_nothing(self):
        paper = Paper(7, 40, ("ann",))
        self.assertEqual(paper.reads(), [])
        paper.reads().append(3)
        self.assertEqual(paper.reads(), [])
        self.assertIs(type(paper.reads()), list)

    def test_its_row(self):
        self.assertEqual(Paper(7, 40, ("ann",)).row(), ("paper", 7, 40, ("ann",)))
        self.assertEqual(Paper(1, 0, ()).row(), ("paper", 1, 0, ()))
        self.assertIs(type(Paper(1, 0, ()).row()), tuple)

    def test_it_falls(self):
        paper = Paper(7, 40, ("ann",))
        plots = [LOW, MIDDLE]
        for things in ((FLOOR, []), (FLOOR, plots), (FLOOR, plots, None), (FLOOR, plots, ()), ((1, 1), [], (3,))):
            refused(self, Falls, paper.done, *things)
            with self.assertRaises(Falls) as taken:
                paper.done(*things)
            self.assertEqual(falls_due(taken.exception.word, taken.exception.who), falls_due("paper"))
        self.assertEqual(plots, [LOW, MIDDLE])
        self.assertEqual(paper.row(), ("paper", 7, 40, ("ann",)))

    def test_two_papers_have_nothing_in_common(self):
        one, other = Paper(7, 40, ("ann",)), Paper(8, 41, ())
        self.assertEqual((one.row(), one.wanting(["ann"])), (("paper", 7, 40, ("ann",)), None))
        self.assertEqual((other.row(), other.wanting(["ann"])), (("paper", 8, 41, ()), "ann"))


if __name__ == "__main__":
    unittest.main()
