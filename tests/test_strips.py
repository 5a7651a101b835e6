import unittest

from landroll.strips import bare, burdens_on, column_at, deepest, kept_on, strips_of, together
from tests.helper import BURDENS, Mix, bits, burden, columns_of, good_strips, mixed_columns, mixed_strips, numbers, \
    strips_from

FULL = 2 ** 64 - 1
A, B, C = burden(1), burden(2, "way", "bob"), burden(3, "note", "cid", 7, 90)

# On the cells 0 and 1 first A, then B; on 2 to 4 C alone; on 63 nothing.
SOME = ((bits([0, 1]), (A, B)), (bits([2, 3, 4]), (C,)), (bits([63]), ()))


class Made(unittest.TestCase):
    def test_no_pairs(self):
        self.assertEqual(strips_of([]), ())

    def test_pairs_without_cells(self):
        self.assertEqual(strips_of([(0, ())]), ())
        self.assertEqual(strips_of([(0, (A,)), (0, (B,)), (0, (A,))]), ())
        self.assertEqual(strips_of([(0, (A,)), (4, (B,)), (0, (B,)), (0, ())]), ((4, (B,)),))

    def test_one_pair(self):
        self.assertEqual(strips_of([(1, ())]), ((1, ()),))
        self.assertEqual(strips_of([(FULL, (A, B))]), ((FULL, (A, B)),))
        self.assertEqual(strips_of([(2 ** 63, (A,))]), ((2 ** 63, (A,)),))

    def test_sorted_by_lowest_cells(self):
        due = ((bits([0, 9]), (B,)), (bits([1]), ()), (bits([2, 3]), (A,)))
        for pairs in (list(due), list(reversed(due)), [due[1], due[2], due[0]], [due[2], due[0], due[1]]):
            self.assertEqual(strips_of(pairs), due)
        self.assertEqual(strips_of([(bits([3]), ()), (bits([1, 2 ** 5]), (A,))]), ((bits([1, 32]), (A,)), (8, ())))

    def test_equal_columns_come_into_one(self):
        self.assertEqual(strips_of([(1, (A,)), (2, (A,))]), ((3, (A,)),))
        self.assertEqual(strips_of([(2 ** 63, ()), (2, (A,)), (1, ())]), ((1 + 2 ** 63, ()), (2, (A,))))
        self.assertEqual(strips_of([(4, (A, B)), (2, (A,)), (1, (A, B))]), ((5, (A, B)), (2, (A,))))
        self.assertEqual(strips_of([(2 ** cell, (A,)) for cell in range(64)]), ((FULL, (A,)),))
        self.assertEqual(strips_of([(1, (burden(7),)), (2, (burden(7),))]), ((3, (burden(7),)),))

    def test_columns_of_unlike_order_are_unlike(self):
        self.assertEqual(strips_of([(1, (A, B)), (2, (B, A))]), ((1, (A, B)), (2, (B, A))))
        self.assertEqual(strips_of([(1, (A, B)), (2, (A,)), (4, ())]), ((1, (A, B)), (2, (A,)), (4, ())))

    def test_many(self):
        mix = Mix(2)
        for turn in range(300):
            columns = mixed_columns(mix, mix.cells(), 5, 6)
            due = strips_from(columns)
            pairs = []
            for cells, column in due:
                first = cells & mix.below(2 ** 64)
                pairs.extend([(first, column), (cells - first, column), (0, column)])
            pairs = mix.some_of(pairs, len(pairs))
            before = list(pairs)
            self.assertEqual(strips_of(pairs), due)
            good_strips(self, strips_of(pairs))
            self.assertEqual(pairs, before)
            self.assertEqual(strips_of([(2 ** cell, columns[cell]) for cell in reversed(sorted(columns))]), due)

    def test_a_hundred_burdens_in_a_column(self):
        column = tuple(burden(number) for number in range(1, 101))
        self.assertEqual(strips_of([(1, column), (2, column[:99]), (4, column)]), ((5, column), (2, column[:99])))

    def test_changing_the_pairs_later_changes_nothing(self):
        pairs = [(1, (A,)), (2, (B,))]
        told = strips_of(pairs)
        pairs[0] = (4, ())
        pairs.append((8, ()))
        self.assertEqual(told, ((1, (A,)), (2, (B,))))
        self.assertEqual(strips_of([(1, (A,)), (2, (B,))]), told)


class Bare(unittest.TestCase):
    def test_of_none_and_of_some(self):
        self.assertEqual(bare(0), ())
        for cells in (1, 2, 5, 2 ** 63, FULL):
            self.assertEqual(bare(cells), ((cells, ()),))
            good_strips(self, bare(cells))


class ColumnAt(unittest.TestCase):
    def test_on_the_ground(self):
        for cell, column in ((0, (A, B)), (1, (A, B)), (2, (C,)), (4, (C,)), (63, ())):
            self.assertEqual(column_at(SOME, cell), column)
            self.assertIs(type(column_at(SOME, cell)), tuple)

    def test_off_the_ground(self):
        for cell in (5, 6, 31, 62):
            self.assertIs(column_at(SOME, cell), None)
        for cell in range(64):
            self.assertIs(column_at((), cell), None)
            self.assertEqual(column_at(bare(FULL - 2 ** cell), cell), None)
            self.assertEqual(column_at(bare(2 ** cell), cell), ())

    def test_many(self):
        mix = Mix(3)
        for turn in range(100):
            strips = mixed_strips(mix)
            columns = columns_of(strips)
            self.assertEqual([column_at(strips, cell) for cell in range(64)], [columns.get(cell) for cell in range(64)])


class KeptOn(unittest.TestCase):
    def test_all_some_and_none(self):
        self.assertEqual(kept_on(SOME, FULL), SOME)
        self.assertEqual(kept_on(SOME, bits([0, 1, 2, 3, 4, 63])), SOME)
        self.assertEqual(kept_on(SOME, 0), ())
        self.assertEqual(kept_on(SOME, bits([1, 3, 4])), ((2, (A, B)), (bits([3, 4]), (C,))))
        self.assertEqual(kept_on(SOME, bits([63])), ((2 ** 63, ()),))
        self.assertEqual(kept_on((), FULL), ())

    def test_cells_beyond_the_ground(self):
        self.assertEqual(kept_on(SOME, bits([5, 6, 62])), ())
        self.assertEqual(kept_on(SOME, bits([4, 5, 6])), ((16, (C,)),))

    def test_the_order_may_turn_about(self):
        strips = ((bits([0, 5]), (A,)), (bits([1, 3]), (B,)))
        self.assertEqual(kept_on(strips, bits([3, 5])), ((8, (B,)), (32, (A,))))

    def test_many(self):
        mix = Mix(4)
        for turn in range(300):
            strips, cells = mixed_strips(mix), mix.cells()
            before = tuple(strips)
            columns = columns_of(strips)
            due = {cell: columns[cell] for cell in columns if cell in numbers(cells)}
            told = kept_on(strips, cells)
            self.assertEqual(told, strips_from(due))
            good_strips(self, told)
            self.assertEqual(together(told, kept_on(strips, FULL - cells)), strips)
            self.assertEqual(strips, before)


class Together(unittest.TestCase):
    def test_by_hand(self):
        self.assertEqual(together(((2, (A,)),), ((1, (B,)),)), ((1, (B,)), (2, (A,))))
        self.assertEqual(together(((1, (A,)),), ((2, (B,)),)), ((1, (A,)), (2, (B,))))

    def test_equal_columns_in_both(self):
        self.assertEqual(together(((1, (A,)),), ((4, (A,)),)), ((5, (A,)),))
        one, other = ((1, (A,)), (8, ())), ((2, ()), (4, (A,)))
        self.assertEqual(together(one, other), ((5, (A,)), (10, ())))
        self.assertEqual(together(other, one), ((5, (A,)), (10, ())))

    def test_with_none(self):
        self.assertEqual(together((), ()), ())
        self.assertEqual(together(SOME, ()), SOME)
        self.assertEqual(together((), SOME), SOME)

    def test_many(self):
        mix = Mix(5)
        for turn in range(300):
            ground, cells = mix.cells(), mix.cells()
            columns = mixed_columns(mix, ground)
            one = strips_from({cell: columns[cell] for cell in numbers(ground & cells)})
            other = strips_from({cell: columns[cell] for cell in numbers(ground & ~cells)})
            before = (tuple(one), tuple(other))
            self.assertEqual(together(one, other), strips_from(columns))
            self.assertEqual(together(other, one), strips_from(columns))
            good_strips(self, together(one, other))
            self.assertEqual((one, other), before)


class Burdens(unittest.TestCase):
    def test_by_number_each_once(self):
        self.assertEqual(burdens_on(SOME), (A, B, C))
        self.assertEqual(burdens_on(((1, (C, A)), (2, (B, C)), (4, (A, C, B)))), (A, B, C))
        some = (burden(10 ** 9), burden(9), burden(100), burden(10))
        self.assertEqual(burdens_on(((1, some),)), (some[1], some[3], some[2], some[0]))

    def test_none(self):
        self.assertEqual(burdens_on(()), ())
        self.assertEqual(burdens_on(((FULL, ()),)), ())

    def test_like_burdens_of_unlike_numbers_are_unlike(self):
        self.assertEqual(burdens_on(((1, (burden(5), burden(4))),)), (burden(4), burden(5)))

    def test_many(self):
        mix = Mix(6)
        for turn in range(200):
            strips = mixed_strips(mix, 6, 5)
            due = {one for cells, column in strips for one in column}
            told = burdens_on(strips)
            self.assertIs(type(told), tuple)
            self.assertEqual(told, tuple(one for one in BURDENS if one in due))


class Deepest(unittest.TestCase):
    def test_by_hand(self):
        self.assertEqual(deepest(()), 0)
        self.assertEqual(deepest(((FULL, ()),)), 0)
        self.assertEqual(deepest(SOME), 2)
        self.assertEqual(deepest(((1, ()), (2, (A,)))), 1)
        self.assertEqual(deepest(((1, (C,)), (2, (A, B)), (4, (B,)))), 2)
        self.assertEqual(deepest(((1, tuple(burden(number) for number in range(1, 101))),)), 100)

    def test_many(self):
        mix = Mix(7)
        for turn in range(100):
            strips = mixed_strips(mix, 9)
            self.assertEqual(deepest(strips), max([0] + [len(column) for cells, column in strips]))
            self.assertIs(type(deepest(strips)), int)


if __name__ == "__main__":
    unittest.main()
