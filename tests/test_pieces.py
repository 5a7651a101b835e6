import unittest

from landroll.pieces import grown, halves, is_one, parts, piece, pieces, seam, way_between
from tests.helper import FLOORS, RIM, SNAKE, bits, chessboards, clumps, drawn, many_cases, mixed_sets, numbers, spot, \
    touch

CORNER = drawn(
    ".#",
    "#.",
)

TWO = drawn(
    "##..#",
    "#...#",
    "#.###",
)

MANY_FIGURES = 10 ** 3999


class Grown(unittest.TestCase):
    def test_by_hand(self):
        self.assertEqual(grown((3, 3), 0), 0)
        self.assertEqual(grown((1, 1), 1), 1)
        self.assertEqual(grown((3, 3), bits([4])), bits([1, 3, 4, 5, 7]))
        self.assertEqual(grown((3, 3), bits([0])), bits([0, 1, 3]))
        self.assertEqual(grown((8, 8), bits([7])), bits([6, 7, 15]))
        self.assertEqual(grown((8, 8), bits([8])), bits([0, 8, 9, 16]))
        self.assertEqual(grown((8, 8), 2 ** 64 - 1), 2 ** 64 - 1)

    def test_many_sets(self):
        for floor, cells in many_cases():
            own = numbers(cells)
            near = [
                cell for cell in range(floor[0] * floor[1])
                if cell in own or any(touch(floor, cell, other) for other in own)
            ]
            self.assertEqual(grown(floor, cells), bits(near))


class Pieces(unittest.TestCase):
    def test_no_cells(self):
        self.assertEqual(pieces((8, 8), 0), [])
        self.assertIs(is_one((8, 8), 0), False)
        self.assertEqual(piece((8, 8), 0, 5), 0)

    def test_one_cell_and_all(self):
        for floor in FLOORS:
            for cell in range(floor[0] * floor[1]):
                self.assertEqual(pieces(floor, 2 ** cell), [2 ** cell])
                self.assertIs(is_one(floor, 2 ** cell), True)
            whole = bits(range(floor[0] * floor[1]))
            self.assertEqual(pieces(floor, whole), [whole])
            self.assertIs(is_one(floor, whole), True)

    def test_cells_that_touch_at_a_corner_alone_are_apart(self):
        floor, cells = CORNER
        self.assertEqual(pieces(floor, cells), [1, 8])
        self.assertIs(is_one(floor, cells), False)
        self.assertEqual(piece(floor, cells, 0), 1)
        self.assertEqual(piece(floor, cells, 3), 8)

    def test_a_rows_end_is_not_beside_the_next_rows_begin(self):
        self.assertEqual(pieces((8, 8), bits([7, 8])), [2 ** 7, 2 ** 8])
        self.assertEqual(pieces((3, 2), bits([2, 3])), [4, 8])

    def test_pieces_come_by_their_lowest_cells(self):
        floor, cells = TWO
        left, right = bits([0, 5, 10, 11]), bits([2, 3, 4, 9, 14])
        self.assertEqual(pieces(floor, cells), [left, right])
        self.assertEqual(piece(floor, cells, 11), left)
        self.assertEqual(piece(floor, cells, 14), right)
        self.assertEqual(piece(floor, cells, 1), 0)
        self.assertEqual(pieces((3, 3), bits([1, 6, 3])), [2, bits([3, 6])])
        self.assertEqual(pieces((4, 2), bits([0, 3, 6, 7])), [1, bits([3, 6, 7])])

    def test_snakes_and_rims_are_one_piece(self):
        for floor, cells in (SNAKE, RIM):
            self.assertEqual(pieces(floor, cells), [cells])
            self.assertIs(is_one(floor, cells), True)
            for cell in range(64):
                self.assertEqual(piece(floor, cells, cell), cells if cell in numbers(cells) else 0)

    def test_a_cut_snake_is_two(self):
        floor, cells = SNAKE
        for cell in numbers(cells)[1:-1]:
            self.assertEqual(is_one(floor, cells - 2 ** cell), len(clumps(floor, cells - 2 ** cell)) == 1)
        self.assertEqual(len(pieces(floor, cells - 2 ** 39)), 2)

    def test_chessboards_are_all_single_cells(self):
        for floor in FLOORS:
            for cells in chessboards(floor):
                self.assertEqual(pieces(floor, cells), [2 ** cell for cell in numbers(cells)])
                self.assertEqual(is_one(floor, cells), len(numbers(cells)) == 1)

    def test_many_sets(self):
        for floor, cells in many_cases():
            told = [bits(clump) for clump in clumps(floor, cells)]
            self.assertEqual(pieces(floor, cells), told)
            self.assertIs(is_one(floor, cells), len(told) == 1)
            for cell in range(floor[0] * floor[1]):
                own = [clump for clump in told if clump & 2 ** cell]
                self.assertEqual(piece(floor, cells, cell), own[0] if own else 0)

    def test_a_cell_beyond_the_floor_lies_in_no_piece(self):
        for cell in (-1, 9, 64, 10 ** 30):
            self.assertEqual(piece((3, 3), 511, cell), 0)
            self.assertIs(way_between((3, 3), 511, cell, 0), None)
            self.assertIs(way_between((3, 3), 511, 0, cell), None)

    def test_what_was_told_is_the_askers_own(self):
        floor, cells = TWO
        told = pieces(floor, cells)
        before = list(told)
        told.clear()
        self.assertEqual(pieces(floor, cells), before)


class Ways(unittest.TestCase):
    def is_way(self, floor, cells, one, other):
        way = way_between(floor, cells, one, other)
        self.assertIs(type(way), list)
        self.assertEqual((way[0], way[-1]), (one, other))
        self.assertEqual(len(set(way)), len(way))
        self.assertTrue(set(way) <= set(numbers(cells)))
        for ahead, behind in zip(way, way[1:]):
            self.assertTrue(touch(floor, ahead, behind))

    def test_from_a_cell_to_itself(self):
        self.assertEqual(way_between((1, 1), 1, 0, 0), [0])
        for cell in range(64):
            self.assertEqual(way_between((8, 8), 2 ** 64 - 1, cell, cell), [cell])
            self.assertEqual(way_between((8, 8), 2 ** cell, cell, cell), [cell])

    def test_none_from_or_to_a_cell_outside(self):
        self.assertIs(way_between((3, 1), 0, 0, 0), None)
        self.assertIs(way_between((3, 1), 5, 1, 1), None)
        self.assertIs(way_between((3, 1), 3, 0, 2), None)
        self.assertIs(way_between((3, 1), 3, 2, 0), None)
        self.assertIs(way_between((3, 1), 1, 1, 2), None)

    def test_none_between_two_pieces(self):
        floor, cells = CORNER
        self.assertIs(way_between(floor, cells, 0, 3), None)
        self.assertIs(way_between(floor, cells, 3, 0), None)
        self.assertIs(way_between((8, 8), bits([7, 8]), 7, 8), None)

    def test_the_only_way_there_is(self):
        self.assertEqual(way_between((4, 1), 15, 0, 3), [0, 1, 2, 3])
        self.assertEqual(way_between((4, 1), 15, 3, 1), [3, 2, 1])
        self.assertEqual(way_between((1, 4), 15, 1, 3), [1, 2, 3])
        floor, cells = TWO
        self.assertEqual(way_between(floor, cells, 0, 11), [0, 5, 10, 11])
        self.assertEqual(way_between(floor, cells, 14, 2), [14, 9, 4, 3, 2])

    def test_through_a_snake_all_cells_are_passed(self):
        floor, cells = SNAKE
        way = way_between(floor, cells, 7, 63)
        self.assertEqual(sorted(way), numbers(cells))
        self.is_way(floor, cells, 7, 63)
        self.is_way(floor, cells, 63, 7)

    def test_many_sets(self):
        cases = [(floor, cells) for floor in ((2, 3), (3, 3)) for cells in range(0, 2 ** (floor[0] * floor[1]), 3)]
        for floor in ((1, 8), (5, 4), (8, 8)):
            cases.extend((floor, cells) for cells in mixed_sets(floor, 9))
        for floor, cells in cases + [RIM]:
            own = {cell: clump for clump in clumps(floor, cells) for cell in clump}
            for one in range(floor[0] * floor[1]):
                for other in range(floor[0] * floor[1]):
                    if one in own and other in own and own[one] == own[other]:
                        self.is_way(floor, cells, one, other)
                    else:
                        self.assertIs(way_between(floor, cells, one, other), None)

    def test_what_was_told_is_the_askers_own(self):
        told = way_between((4, 1), 15, 0, 3)
        told.reverse()
        self.assertEqual(way_between((4, 1), 15, 0, 3), [0, 1, 2, 3])


class Lines(unittest.TestCase):
    def test_by_hand(self):
        whole = 2 ** 9 - 1
        self.assertEqual(halves((3, 3), whole, "x", 1), (bits([0, 3, 6]), bits([1, 2, 4, 5, 7, 8])))
        self.assertEqual(halves((3, 3), whole, "y", 1), (bits([0, 1, 2]), bits([3, 4, 5, 6, 7, 8])))
        self.assertEqual(halves((3, 3), bits([0, 1, 8]), "x", 2), (bits([0, 1]), bits([8])))
        self.assertEqual(halves((4, 2), bits([0, 3, 4, 7]), "y", 1), (bits([0, 3]), bits([4, 7])))

    def test_no_cells_have_empty_halves_and_no_parts(self):
        for axis in "xy":
            for place in (0, 1, 4, 9, -1, MANY_FIGURES, -MANY_FIGURES):
                self.assertEqual(halves((8, 8), 0, axis, place), (0, 0))
                self.assertEqual(parts((8, 8), 0, axis, place), [])

    def test_at_nought_and_below_the_first_half_is_empty(self):
        for floor, cells in many_cases():
            for axis in "xy":
                for place in (0, -1, -64, -MANY_FIGURES):
                    self.assertEqual(halves(floor, cells, axis, place), (0, cells))

    def test_beyond_the_floor_the_second_half_is_empty(self):
        for floor, cells in many_cases():
            for axis, length in (("x", floor[0]), ("y", floor[1])):
                for place in (length, length + 1, 64, 2 ** 64, MANY_FIGURES):
                    self.assertEqual(halves(floor, cells, axis, place), (cells, 0))

    def test_parts_beyond_either_end_are_the_pieces(self):
        for floor, cells in many_cases()[::7]:
            told = [bits(clump) for clump in clumps(floor, cells)]
            for axis in "xy":
                for place in (0, -3, 8, 9, MANY_FIGURES, -MANY_FIGURES):
                    self.assertEqual(parts(floor, cells, axis, place), told)

    def test_each_place_of_the_floor(self):
        for floor, cells in many_cases()[::3]:
            for way, axis in enumerate("xy"):
                for place in range(-1, 10):
                    first = bits([cell for cell in numbers(cells) if spot(floor, cell)[way] < place])
                    told = halves(floor, cells, axis, place)
                    self.assertIs(type(told), tuple)
                    self.assertEqual(told, (first, cells - first))
                    some = clumps(floor, first) + clumps(floor, cells - first)
                    self.assertEqual(parts(floor, cells, axis, place), [bits(clump) for clump in sorted(some)])

    def test_parts_of_both_halves_come_by_their_lowest_cells(self):
        floor, cells = drawn(
            "#.#",
            "###",
            "#.#",
        )
        self.assertEqual(parts(floor, cells, "y", 1), [1, 4, bits([3, 4, 5, 6, 8])])
        self.assertEqual(parts(floor, cells, "y", 2), [bits([0, 2, 3, 4, 5]), bits([6]), bits([8])])
        self.assertEqual(parts(floor, cells, "x", 1), [bits([0, 3, 6]), bits([2, 4, 5, 8])])
        self.assertEqual(parts(floor, bits([2, 3, 4]), "x", 2), [bits([2]), bits([3, 4])])
        self.assertEqual(parts(floor, bits([1, 3]), "x", 1), [bits([1]), bits([3])])

    def test_what_was_told_is_the_askers_own(self):
        told = parts((3, 3), 2 ** 9 - 1, "x", 1)
        before = list(told)
        told.clear()
        self.assertEqual(parts((3, 3), 2 ** 9 - 1, "x", 1), before)


class Seams(unittest.TestCase):
    def test_by_hand(self):
        self.assertEqual(seam((2, 2), 1, 2), [(0, 1)])
        self.assertEqual(seam((2, 2), 2, 1), [(1, 0)])
        self.assertEqual(seam((2, 2), 1, 8), [])
        self.assertEqual(seam((2, 2), 5, 10), [(0, 1), (2, 3)])
        self.assertEqual(seam((3, 3), bits([4]), bits([0, 1, 2, 3, 5, 6, 7, 8])), [(4, 1), (4, 3), (4, 5), (4, 7)])
        self.assertEqual(seam((3, 3), bits([1, 3, 5, 7]), bits([4])), [(1, 4), (3, 4), (5, 4), (7, 4)])

    def test_of_no_cells(self):
        self.assertEqual(seam((3, 3), 0, 0), [])
        self.assertEqual(seam((3, 3), 0, 511), [])
        self.assertEqual(seam((3, 3), 511, 0), [])

    def test_of_a_set_with_itself(self):
        self.assertEqual(seam((1, 1), 1, 1), [])
        self.assertEqual(seam((2, 2), 15, 15), [(0, 1), (0, 2), (1, 0), (1, 3), (2, 0), (2, 3), (3, 1), (3, 2)])

    def test_of_sets_that_overlap(self):
        self.assertEqual(seam((3, 1), 3, 6), [(0, 1), (1, 2)])
        self.assertEqual(seam((3, 1), 6, 3), [(1, 0), (2, 1)])
        self.assertEqual(seam((3, 1), 7, 2), [(0, 1), (2, 1)])

    def test_many_pairs_of_sets_both_ways_round(self):
        for floor in FLOORS:
            ones = mixed_sets(floor, 12, 3) + [0]
            others = mixed_sets(floor, 12, 8) + [0]
            for one in ones:
                for other in others + [one]:
                    told = seam(floor, one, other)
                    self.assertIs(type(told), list)
                    pairs = [(a, b) for a in numbers(one) for b in numbers(other) if touch(floor, a, b)]
                    self.assertEqual(told, pairs)
                    self.assertEqual(seam(floor, other, one), sorted((b, a) for a, b in pairs))

    def test_what_was_told_is_the_askers_own(self):
        told = seam((2, 2), 5, 10)
        told.clear()
        self.assertEqual(seam((2, 2), 5, 10), [(0, 1), (2, 3)])


if __name__ == "__main__":
    unittest.main()
