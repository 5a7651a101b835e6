import unittest

from landroll.cells import SIDE, beside, cells_of, every, floor_of, is_number, listed, lowest, size_of
from landroll.errors import BadCells, BadFloor
from tests.helper import FLOORS, NO_NUMBERS, bits, many_cases, mixed_sets, numbers, touch


class WholeNumbers(unittest.TestCase):
    def test_ints_are_whole_numbers(self):
        for thing in (0, 1, 2, 63, 64, -1, -64, 10 ** 9, 2 ** 64, 10 ** 3999, -(10 ** 3999)):
            self.assertIs(is_number(thing), True)

    def test_truths_and_things_of_other_kinds_are_none(self):
        for thing in NO_NUMBERS:
            with self.subTest(thing=thing):
                self.assertIs(is_number(thing), False)


class Floors(unittest.TestCase):
    def test_the_side_is_eight(self):
        self.assertEqual(SIDE, 8)
        self.assertIs(is_number(SIDE), True)

    def test_every_floor_from_1_to_8_is_made(self):
        for wide in range(1, 9):
            for high in range(1, 9):
                floor = floor_of(wide, high)
                self.assertIs(type(floor), tuple)
                self.assertEqual(floor, (wide, high))

    def refused(self, wide, high):
        with self.subTest(wide=wide, high=high):
            with self.assertRaises(BadFloor) as taken:
                floor_of(wide, high)
            self.assertIs(type(taken.exception), BadFloor)

    def test_numbers_from_outside_are_refused_at_either_place(self):
        for wrong in (0, 9, 10, 64, -1, -8, 10 ** 3999, -(10 ** 3999)):
            for good in (1, 5, 8):
                self.refused(wrong, good)
                self.refused(good, wrong)
            self.refused(wrong, wrong)

    def test_things_that_are_no_whole_numbers_are_refused_at_either_place(self):
        for wrong in NO_NUMBERS:
            for good in (1, 8):
                self.refused(wrong, good)
                self.refused(good, wrong)
            self.refused(wrong, 0)
            self.refused(0, wrong)
            self.refused(wrong, wrong)

    def test_every_tells_all_cells_of_the_floor(self):
        for floor in FLOORS:
            self.assertEqual(every(floor), bits(range(floor[0] * floor[1])))
        self.assertEqual(every((1, 1)), 1)
        self.assertEqual(every((3, 2)), 63)
        self.assertEqual(every((8, 8)), 2 ** 64 - 1)


class CellsMade(unittest.TestCase):
    def test_ordinary_lists(self):
        self.assertEqual(cells_of([]), 0)
        self.assertEqual(cells_of([0]), 1)
        self.assertEqual(cells_of([0, 2]), 5)
        self.assertEqual(cells_of([63]), 2 ** 63)
        self.assertEqual(cells_of([0, 63]), 2 ** 63 + 1)
        self.assertEqual(cells_of(list(range(64))), 2 ** 64 - 1)

    def test_any_order_and_more_than_once(self):
        self.assertEqual(cells_of([2, 0]), 5)
        self.assertEqual(cells_of([0, 0]), 1)
        self.assertEqual(cells_of([7, 3, 7, 0, 3, 3]), 2 ** 7 + 2 ** 3 + 1)
        self.assertEqual(cells_of([63, 62, 63, 63]), 2 ** 63 + 2 ** 62)

    def test_each_number_by_itself(self):
        for cell in range(64):
            self.assertEqual(cells_of([cell]), 2 ** cell)

    def test_a_whole_number_is_told(self):
        self.assertIs(type(cells_of([])), int)
        self.assertIs(type(cells_of([0, 0])), int)

    def refused(self, some):
        with self.subTest(some=some):
            with self.assertRaises(BadCells) as taken:
                cells_of(some)
            self.assertIs(type(taken.exception), BadCells)

    def test_wrong_things_are_refused_at_any_place(self):
        for wrong in (-1, 64, -64, 65, 128, 10 ** 3999, -(10 ** 3999)) + NO_NUMBERS:
            self.refused([wrong])
            for place in range(4):
                some = [5, 0, 63]
                some.insert(place, wrong)
                self.refused(some)
            self.refused([1, wrong, wrong])

    def test_the_list_is_as_it_was(self):
        some = [7, 3, 7, 0]
        cells_of(some)
        self.assertEqual(some, [7, 3, 7, 0])
        some = [7, 3, 64]
        self.refused(some)
        self.assertEqual(some, [7, 3, 64])

    def test_changing_the_list_later_changes_nothing(self):
        some = [0, 2]
        cells = cells_of(some)
        some.append(1)
        self.assertEqual(cells, 5)
        self.assertEqual(cells_of([0, 2]), 5)


class CellsTold(unittest.TestCase):
    def test_listed(self):
        self.assertEqual(listed(0), [])
        self.assertEqual(listed(1), [0])
        self.assertEqual(listed(5), [0, 2])
        self.assertEqual(listed(2 ** 63), [63])
        self.assertEqual(listed(2 ** 64 - 1), list(range(64)))

    def test_size_of(self):
        self.assertEqual(size_of(0), 0)
        self.assertEqual(size_of(1), 1)
        self.assertEqual(size_of(5), 2)
        self.assertEqual(size_of(2 ** 63), 1)
        self.assertEqual(size_of(2 ** 64 - 1), 64)

    def test_lowest(self):
        self.assertIs(lowest(0), None)
        self.assertEqual(lowest(1), 0)
        self.assertEqual(lowest(6), 1)
        self.assertEqual(lowest(2 ** 63), 63)
        self.assertEqual(lowest(2 ** 64 - 1), 0)
        for cell in range(64):
            self.assertEqual(lowest(2 ** cell), cell)
            self.assertEqual(lowest(2 ** 64 - 2 ** cell), cell)

    def test_many_sets(self):
        for floor, cells in many_cases():
            told = numbers(cells)
            self.assertEqual(listed(cells), told)
            self.assertEqual(size_of(cells), len(told))
            self.assertEqual(lowest(cells), told[0] if told else None)
            self.assertEqual(cells_of(told), cells)
            self.assertEqual(cells_of(list(reversed(told)) + told), cells)

    def test_kinds(self):
        for cells in mixed_sets((8, 8), 20):
            self.assertIs(type(listed(cells)), list)
            self.assertIs(type(size_of(cells)), int)
            self.assertIs(type(lowest(cells)), int)

    def test_what_was_told_is_the_askers_own(self):
        told = listed(5)
        told.append(9)
        self.assertEqual(listed(5), [0, 2])
        told = listed(0)
        told.append(9)
        self.assertEqual(listed(0), [])


class Beside(unittest.TestCase):
    def test_one_cell_has_none_beside_it(self):
        self.assertEqual(beside((1, 1), 0), [])

    def test_narrow_floors(self):
        self.assertEqual(beside((1, 8), 0), [1])
        self.assertEqual(beside((1, 8), 3), [2, 4])
        self.assertEqual(beside((1, 8), 7), [6])
        self.assertEqual(beside((8, 1), 0), [1])
        self.assertEqual(beside((8, 1), 3), [2, 4])
        self.assertEqual(beside((8, 1), 7), [6])
        self.assertEqual(beside((2, 2), 0), [1, 2])
        self.assertEqual(beside((2, 2), 1), [0, 3])
        self.assertEqual(beside((2, 2), 2), [0, 3])
        self.assertEqual(beside((2, 2), 3), [1, 2])

    def test_corners_rims_and_within_on_8_by_8(self):
        self.assertEqual(beside((8, 8), 0), [1, 8])
        self.assertEqual(beside((8, 8), 7), [6, 15])
        self.assertEqual(beside((8, 8), 56), [48, 57])
        self.assertEqual(beside((8, 8), 63), [55, 62])
        self.assertEqual(beside((8, 8), 3), [2, 4, 11])
        self.assertEqual(beside((8, 8), 60), [52, 59, 61])
        self.assertEqual(beside((8, 8), 8), [0, 9, 16])
        self.assertEqual(beside((8, 8), 15), [7, 14, 23])
        self.assertEqual(beside((8, 8), 27), [19, 26, 28, 35])

    def test_every_cell_of_every_floor(self):
        for wide in range(1, 9):
            for high in range(1, 9):
                floor = (wide, high)
                for cell in range(wide * high):
                    told = beside(floor, cell)
                    self.assertIs(type(told), list)
                    self.assertEqual(told, [other for other in range(wide * high) if touch(floor, cell, other)])

    def test_what_was_told_is_the_askers_own(self):
        told = beside((8, 8), 27)
        told.clear()
        self.assertEqual(beside((8, 8), 27), [19, 26, 28, 35])


if __name__ == "__main__":
    unittest.main()
