import unittest

from landroll.ranks import DEEPEST, filled, laid, lifted, overtaken, passed, waived
from tests.helper import (
    BURDENS, Mix, burden, columns_of, filled_due, good_strips, laid_due, lifted_due, mixed_strips, numbers,
    overtaken_due, strips_from, waived_due,
)

FULL = 2 ** 64 - 1
A, B, C, D = burden(1), burden(2, "way", "bob"), burden(3, "note", "cid", 7, 90), burden(4, "buy", "dot")
NEW = burden(7, "debt", "eve", 500)
KNOWN = tuple(one[0] for one in BURDENS)
NOWHERE = (6, 77, 10 ** 9 - 1)


def row(*some):
    """Strips of the cells from 0 on, each with one of these columns."""
    return strips_from(dict(enumerate(some)))


class Ranks(unittest.TestCase):
    """What the other tests here hold strips against."""

    def same(self, told, due, before):
        """Holds that the strips told are those due, in the form of [31], of the ground of those before."""
        self.assertEqual(told, due)
        good_strips(self, told)
        self.assertEqual(sorted(columns_of(told)), sorted(columns_of(before)))


class Laid(Ranks):
    def test_the_deepest_is_told(self):
        self.assertEqual(DEEPEST, 12)
        self.assertIs(type(DEEPEST), int)

    def test_nothing_here_asks_how_deep_a_column_is(self):
        strips = ((FULL, tuple(burden(number) for number in range(1, 41))),)
        self.assertEqual(len(laid(strips, FULL, burden(41))[0][1]), 41)
        self.assertEqual(len(filled(strips, FULL, 77, burden(41))[0][1]), 41)

    def test_on_all_cells(self):
        self.assertEqual(laid(row(()), 1, NEW), row((NEW,)))
        self.assertEqual(laid(row((A,), (B,), ()), 7, NEW), row((A, NEW), (B, NEW), (NEW,)))
        self.assertEqual(laid(((FULL, (A, B)),), FULL, NEW), ((FULL, (A, B, NEW)),))

    def test_on_some_cells_the_strip_is_parted(self):
        self.assertEqual(laid(((15, (A,)),), 6, NEW), ((9, (A,)), (6, (A, NEW))))
        self.assertEqual(laid(((15, (A,)),), 3, NEW), ((3, (A, NEW)), (12, (A,))))

    def test_on_no_cells_and_on_cells_beyond_the_ground(self):
        strips = row((A,), (B, A), ())
        for ground in (0, 8, FULL - 7):
            for told in (None, (), (1,)):
                self.assertEqual(laid(strips, ground, NEW, told), strips)
                self.assertEqual(overtaken(strips, ground, told or ()), ())
        self.assertEqual(laid(strips, 9, NEW), row((A, NEW), (B, A), ()))
        self.assertEqual(laid((), FULL, NEW), ())
        self.assertEqual(laid((), FULL, NEW, ()), ())
        self.assertEqual(overtaken((), FULL, ()), ())

    def test_nothing_told_is_the_end(self):
        self.assertEqual(laid(row((A, B)), 1, NEW), row((A, B, NEW)))
        self.assertEqual(laid(row((A, B)), 1, NEW, None), row((A, B, NEW)))

    def test_no_numbers_told_is_ahead_of_all(self):
        self.assertEqual(laid(row((A, B)), 1, NEW, ()), row((NEW, A, B)))
        self.assertEqual(overtaken(row((A, B)), 1, ()), (A, B))
        self.assertEqual(laid(row(()), 1, NEW, ()), row((NEW,)))
        self.assertEqual(overtaken(row(()), 1, ()), ())

    def test_right_behind_the_last_one_told(self):
        strips = row((A, B, C, D))
        for told, due, gone_by in (
            ((1,), (A, NEW, B, C, D), (B, C, D)),
            ((2,), (A, B, NEW, C, D), (C, D)),
            ((4,), (A, B, C, D, NEW), ()),
            ((3, 1), (A, B, C, NEW, D), (D,)),
            ((1, 3), (A, B, C, NEW, D), (D,)),
            ((2, 2, 1, 2), (A, B, NEW, C, D), (C, D)),
            ((77, 2, 10 ** 9), (A, B, NEW, C, D), (C, D)),
            ((4, 3, 2, 1), (A, B, C, D, NEW), ()),
            ((77,), (NEW, A, B, C, D), (A, B, C, D)),
        ):
            self.assertEqual(laid(strips, 1, NEW, told), row(due))
            self.assertEqual(overtaken(strips, 1, told), gone_by)

    def test_the_place_goes_by_the_columns_order_not_by_the_numbers(self):
        strips = row((D, A, C, B))
        self.assertEqual(laid(strips, 1, NEW, (4, 1)), row((D, A, NEW, C, B)))
        self.assertEqual(overtaken(strips, 1, (4, 1)), (B, C))
        self.assertEqual(laid(strips, 1, NEW, (4,)), row((D, NEW, A, C, B)))
        self.assertEqual(overtaken(strips, 1, (4,)), (A, B, C))

    def test_each_column_for_itself(self):
        strips = row((A, B), (B, A), (C,), (A,))
        self.assertEqual(laid(strips, 15, NEW, (1,)), row((A, NEW, B), (B, A, NEW), (NEW, C), (A, NEW)))
        self.assertEqual(overtaken(strips, 15, (1,)), (B, C))
        self.assertEqual(laid(strips, 7, NEW, (2,)), row((A, B, NEW), (B, NEW, A), (NEW, C), (A,)))
        self.assertEqual(overtaken(strips, 7, (2,)), (A, C))
        self.assertEqual(overtaken(strips, 3, (2,)), (A,))
        self.assertEqual(overtaken(strips, 1, (2,)), ())

    def test_many(self):
        mix = Mix(21)
        for turn in range(600):
            strips, ground = mixed_strips(mix, 5, 5), mix.cells()
            before = tuple(strips)
            told = tuple(mix.one_of(KNOWN + NOWHERE) for time in range(mix.below(5)))
            self.same(laid(strips, ground, NEW), laid_due(strips, ground, NEW, None), strips)
            self.same(laid(strips, ground, NEW, told), laid_due(strips, ground, NEW, told), strips)
            gone_by = overtaken(strips, ground, told)
            self.assertIs(type(gone_by), tuple)
            self.assertEqual(gone_by, overtaken_due(strips, ground, told))
            self.assertEqual(strips, before)


class Lifted(Ranks):
    def test_in_some_in_all_and_in_no_columns(self):
        strips = row((A, B), (B,), (C, B, A))
        self.assertEqual(lifted(strips, 1), row((B,), (B,), (C, B)))
        self.assertEqual(lifted(strips, 2), row((A,), (), (C, A)))
        self.assertEqual(lifted(strips, 3), row((A, B), (B,), (B, A)))
        for number in NOWHERE:
            self.assertEqual(lifted(strips, number), strips)
        self.assertEqual(lifted((), 1), ())
        self.assertEqual(lifted(((FULL, ()),), 1), ((FULL, ()),))

    def test_columns_that_become_equal_come_into_one_strip(self):
        self.assertEqual(lifted(((9, (A,)), (6, (A, NEW))), 7), ((15, (A,)),))
        self.assertEqual(lifted(row((A, B), (B,), (B, A)), 1), ((7, (B,)),))

    def test_what_is_laid_and_lifted_is_as_it_was(self):
        mix = Mix(22)
        for turn in range(200):
            strips, ground = mixed_strips(mix), mix.cells()
            for told in (None, (), tuple(mix.some_of(KNOWN, 2))):
                self.assertEqual(lifted(laid(strips, ground, NEW, told), 7), strips)

    def test_many(self):
        mix = Mix(23)
        for turn in range(400):
            strips = mixed_strips(mix, 5, 5)
            before = tuple(strips)
            number = mix.one_of(KNOWN + NOWHERE)
            self.same(lifted(strips, number), lifted_due(strips, number), strips)
            self.assertEqual(strips, before)


class Filled(Ranks):
    def test_the_note_on_all_cells(self):
        strips = ((7, (A, C, B)),)
        self.assertEqual(filled(strips, 7, 3, NEW), ((7, (A, NEW, B)),))
        self.assertEqual(filled(strips, FULL, 3, NEW), ((7, (A, NEW, B)),))
        self.assertEqual(filled(strips, 2, 3, NEW), ((5, (A, B)), (2, (A, NEW, B))))
        self.assertEqual(filled(strips, 0, 3, NEW), ((7, (A, B)),))

    def test_the_note_on_some_cells(self):
        strips = row((C, A), (A, C), (A,), ())
        self.assertEqual(filled(strips, 15, 3, NEW), row((NEW, A), (A, NEW), (A, NEW), (NEW,)))
        self.assertEqual(filled(strips, 5, 3, NEW), row((NEW, A), (A,), (A, NEW), ()))
        self.assertEqual(filled(strips, 10, 3, NEW), row((A,), (A, NEW), (A,), (NEW,)))
        self.assertEqual(filled(strips, 0, 3, NEW), row((A,), (A,), (A,), ()))

    def test_the_note_on_no_cells(self):
        strips = row((A, B), (B,), ())
        for note in NOWHERE:
            self.assertEqual(filled(strips, 3, note, NEW), row((A, B, NEW), (B, NEW), ()))
            self.assertEqual(filled(strips, 0, note, NEW), strips)

    def test_cells_beyond_the_ground(self):
        strips = row((C, A), (A, C))
        self.assertEqual(filled(strips, FULL - 3, 3, NEW), ((3, (A,)),))
        self.assertEqual(filled(strips, FULL - 1, 3, NEW), row((A,), (A, NEW)))
        self.assertEqual(filled((), FULL, 3, NEW), ())

    def test_first_last_and_alone(self):
        self.assertEqual(filled(row((C, A, B)), 1, 3, NEW), row((NEW, A, B)))
        self.assertEqual(filled(row((A, B, C)), 1, 3, NEW), row((A, B, NEW)))
        self.assertEqual(filled(row((C,)), 1, 3, NEW), row((NEW,)))

    def test_the_kind_of_the_note_is_not_asked(self):
        self.assertEqual(filled(row((A, B, D)), 1, 2, NEW), row((A, NEW, D)))

    def test_many(self):
        mix = Mix(24)
        for turn in range(600):
            strips, ground = mixed_strips(mix, 5, 5), mix.cells()
            before = tuple(strips)
            note = mix.one_of(KNOWN + NOWHERE)
            self.same(filled(strips, ground, note, NEW), filled_due(strips, ground, note, NEW), strips)
            self.assertEqual(strips, before)


class Waived(Ranks):
    def due(self, strips, number, ahead, due, gone_by):
        self.same(waived(strips, number, ahead), due, strips)
        self.assertEqual(passed(strips, number, ahead), gone_by)
        self.assertIs(type(passed(strips, number, ahead)), tuple)

    def test_both_ways_round(self):
        strips = row((A, B, C, D))
        self.due(strips, 1, 4, row((D, A, B, C)), (A, B, C))
        self.due(strips, 4, 1, strips, ())
        self.due(strips, 2, 4, row((A, D, B, C)), (B, C))
        self.due(strips, 2, 3, row((A, C, B, D)), (B,))
        self.due(strips, 3, 2, strips, ())
        self.due(strips, 1, 2, row((B, A, C, D)), (A,))

    def test_the_order_of_the_numbers_says_nothing(self):
        strips = row((D, C, B, A))
        self.due(strips, 4, 1, row((A, D, C, B)), (B, C, D))
        self.due(strips, 1, 4, strips, ())

    def test_each_column_for_itself(self):
        strips = row((A, C, B), (B, A), (A,), (B,), (A, B), ())
        self.due(strips, 1, 2, row((B, A, C), (B, A), (A,), (B,), (B, A), ()), (A, C))
        self.due(strips, 2, 1, row((A, C, B), (A, B), (A,), (B,), (A, B), ()), (B,))

    def test_columns_that_become_equal_come_into_one_strip(self):
        self.assertEqual(waived(row((A, B), (B, A), (A, B)), 1, 2), ((7, (B, A)),))

    def test_one_number_twice(self):
        strips = row((A, B), (B, A))
        for number in (1, 2, 3, 77):
            self.due(strips, number, number, strips, ())

    def test_numbers_that_stand_nowhere(self):
        strips = row((A, B), (C,))
        for number in NOWHERE:
            for other in (1, 2, 3, 8):
                self.due(strips, number, other, strips, ())
                self.due(strips, other, number, strips, ())
        self.due((), 1, 2, (), ())

    def test_the_two_in_unlike_columns_alone(self):
        strips = row((A,), (B,), (C, A))
        self.due(strips, 1, 2, strips, ())
        self.due(strips, 2, 1, strips, ())

    def test_many(self):
        mix = Mix(25)
        moved = 0
        for turn in range(900):
            strips = mixed_strips(mix, 8, 5)
            before = tuple(strips)
            standing = sorted({one[0] for cells, column in strips for one in column}) + [77]
            number, ahead = mix.one_of(standing), mix.one_of(standing)
            self.due(strips, number, ahead, *waived_due(strips, number, ahead))
            moved += waived(strips, number, ahead) != strips
            self.assertEqual(strips, before)
        self.assertGreater(moved, 200)


class Rows(Ranks):
    def test_many_deeds_one_behind_the_other(self):
        for seed in range(31, 43):
            mix = Mix(seed)
            strips = strips_from({cell: () for cell in numbers(mix.below(2 ** 64))})
            for number in range(1, 61):
                standing = sorted({one[0] for cells, column in strips for one in column}) + [10 ** 9]
                ground = mix.cells()
                way = mix.below(7)
                new = burden(number, mix.one_of(("debt", "way", "buy", "note")), "ann", mix.below(9))
                other = mix.one_of(standing)
                if way < 2:
                    told, due = laid(strips, ground, new), laid_due(strips, ground, new, None)
                elif way == 2:
                    some = tuple(mix.some_of(standing, mix.below(4)))
                    self.assertEqual(overtaken(strips, ground, some), overtaken_due(strips, ground, some))
                    told, due = laid(strips, ground, new, some), laid_due(strips, ground, new, some)
                elif way == 3:
                    told, due = filled(strips, ground, other, new), filled_due(strips, ground, other, new)
                elif way == 4:
                    told, due = lifted(strips, other), lifted_due(strips, other)
                else:
                    number = mix.one_of(standing)
                    due, gone_by = waived_due(strips, number, other)
                    self.assertEqual(passed(strips, number, other), gone_by)
                    told = waived(strips, number, other)
                self.same(told, due, strips)
                strips = told


if __name__ == "__main__":
    unittest.main()
