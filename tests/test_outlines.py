import copy
import unittest

from landroll.outlines import inside, rings, sides, twice_area
from landroll.pieces import pieces
from tests.helper import FLOORS, RIM, SNAKE, bits, drawn, many_cases, mixed_sets, numbers, spot

SQUARE = [(0, 0), (1, 0), (1, 1), (0, 1)]

HOLE = drawn(
    "###",
    "#.#",
    "###",
)

CORNERS = (
    drawn(
        ".#",
        "#.",
    ),
    drawn(
        "#.",
        ".#",
    ),
)

TWO_HOLES = drawn(
    "####",
    "##.#",
    "#.##",
    "####",
)

OPEN_HOLE = drawn(
    "###",
    "#.#",
    ".##",
)


def places(floor, cells):
    return {spot(floor, cell) for cell in numbers(cells)}


# Round a cell against the clock: the step along each of its sides, the lowest side first.
STEPS = ((1, 0), (0, 1), (-1, 0), (0, -1))
BEGINS = ((0, 0), (1, 0), (1, 1), (0, 1))


def side_of(cell, turn):
    begin = (cell[0] + BEGINS[turn][0], cell[1] + BEGINS[turn][1])
    return begin, (begin[0] + STEPS[turn][0], begin[1] + STEPS[turn][1])


def shifted(cell, turn):
    step = STEPS[turn % 4]
    return cell[0] + step[0], cell[1] + step[1]


def free_sides(own):
    """Pairs (cell, turn) for each side beyond which none of the cells lies: beyond a side is what lies to its right."""
    return [(cell, turn) for cell in own for turn in range(4) if shifted(cell, turn - 1) not in own]


def next_by_cells(own, cell, turn):
    """The side that comes next, found by the two cells that lie ahead of the side's end."""
    ahead = shifted(cell, turn)
    if ahead not in own:
        return cell, (turn + 1) % 4
    beyond = shifted(ahead, turn - 1)
    if beyond not in own:
        return ahead, turn
    return beyond, (turn - 1) % 4


def rings_by_cells(floor, cells):
    own = places(floor, cells)
    left = free_sides(own)
    told = []
    while left:
        walk = [left[0]]
        while next_by_cells(own, *walk[-1]) != walk[0]:
            walk.append(next_by_cells(own, *walk[-1]))
        left = [state for state in left if state not in walk]
        ring = [side_of(*state)[0] for place, state in enumerate(walk) if state[1] != walk[place - 1][1]]
        least = ring.index(min(ring))
        told.append(ring[least:] + ring[:least])
    return sorted(told)


def inside_by_count(floor, some):
    """For each cell the upright sides to its left in its row are counted one by one."""
    told = []
    for cell in range(floor[0] * floor[1]):
        column, row = spot(floor, cell)
        count = 0
        for ring in some:
            for (x, y), (over, up) in zip(ring, ring[1:] + ring[:1]):
                if x == over and x <= column and min(y, up) <= row < max(y, up):
                    count += 1
        if count % 2 == 1:
            told.append(cell)
    return bits(told)


class Sides(unittest.TestCase):
    def test_no_cells(self):
        self.assertEqual(sides((8, 8), 0), [])

    def test_one_cell(self):
        told = [((0, 0), (1, 0)), ((0, 1), (0, 0)), ((1, 0), (1, 1)), ((1, 1), (0, 1))]
        self.assertEqual(sides((1, 1), 1), told)
        self.assertEqual(sides((8, 8), 1), told)

    def test_a_cell_away_from_nought(self):
        told = [((2, 1), (3, 1)), ((2, 2), (2, 1)), ((3, 1), (3, 2)), ((3, 2), (2, 2))]
        self.assertEqual(sides((3, 2), 2 ** 5), told)

    def test_no_side_between_two_of_the_cells(self):
        told = [
            ((0, 0), (1, 0)), ((0, 1), (0, 0)), ((1, 0), (2, 0)), ((1, 1), (0, 1)), ((2, 0), (2, 1)), ((2, 1), (1, 1)),
        ]
        self.assertEqual(sides((2, 1), 3), told)

    def test_sides_round_a_hole_have_the_cell_at_the_left_hand(self):
        floor, cells = HOLE
        told = sides(floor, cells)
        self.assertEqual(len(told), 16)
        for side in (((1, 1), (1, 2)), ((1, 2), (2, 2)), ((2, 2), (2, 1)), ((2, 1), (1, 1))):
            self.assertIn(side, told)
            self.assertNotIn((side[1], side[0]), told)

    def test_many_sets(self):
        for floor, cells in many_cases():
            own = places(floor, cells)
            self.assertEqual(sides(floor, cells), sorted(side_of(*state) for state in free_sides(own)))

    def test_kinds_are_lists_of_tuples_of_points(self):
        told = sides((3, 2), 2 ** 5)
        self.assertIs(type(told), list)
        for side in told:
            self.assertEqual([type(side), type(side[0]), type(side[1])], [tuple, tuple, tuple])

    def test_what_was_told_is_the_askers_own(self):
        told = sides((2, 1), 3)
        before = list(told)
        told.clear()
        self.assertEqual(sides((2, 1), 3), before)


class Rings(unittest.TestCase):
    def test_no_cells(self):
        self.assertEqual(rings((8, 8), 0), [])

    def test_one_cell_from_the_least_corner_on(self):
        self.assertEqual(rings((1, 1), 1), [SQUARE])
        self.assertEqual(rings((3, 2), 2 ** 5), [[(2, 1), (3, 1), (3, 2), (2, 2)]])

    def test_only_corners_are_told(self):
        self.assertEqual(rings((8, 8), 2 ** 64 - 1), [[(0, 0), (8, 0), (8, 8), (0, 8)]])
        self.assertEqual(rings((8, 1), 255), [[(0, 0), (8, 0), (8, 1), (0, 1)]])
        floor, cells = drawn(
            "#..",
            "###",
        )
        self.assertEqual(rings(floor, cells), [[(0, 0), (3, 0), (3, 1), (1, 1), (1, 2), (0, 2)]])

    def test_the_least_corner_need_not_be_the_lowest(self):
        floor, cells = drawn(
            "##",
            ".#",
        )
        self.assertEqual(rings(floor, cells), [[(0, 1), (1, 1), (1, 0), (2, 0), (2, 2), (0, 2)]])

    def test_a_hole_goes_round_the_other_way(self):
        floor, cells = HOLE
        self.assertEqual(rings(floor, cells), [
            [(0, 0), (3, 0), (3, 3), (0, 3)],
            [(1, 1), (1, 2), (2, 2), (2, 1)],
        ])

    def test_cells_that_touch_at_a_corner_alone_have_a_ring_each(self):
        floor, cells = CORNERS[0]
        self.assertEqual(rings(floor, cells), [SQUARE, [(1, 1), (2, 1), (2, 2), (1, 2)]])
        floor, cells = CORNERS[1]
        self.assertEqual(rings(floor, cells), [
            [(0, 1), (1, 1), (1, 2), (0, 2)],
            [(1, 0), (2, 0), (2, 1), (1, 1)],
        ])

    def test_two_holes_that_touch_make_one_ring_that_tells_the_point_twice(self):
        floor, cells = TWO_HOLES
        self.assertEqual(rings(floor, cells), [
            [(0, 0), (4, 0), (4, 4), (0, 4)],
            [(1, 1), (1, 2), (2, 2), (2, 3), (3, 3), (3, 2), (2, 2), (2, 1)],
        ])

    def test_a_hole_that_is_open_at_a_corner_belongs_to_the_ring_around(self):
        floor, cells = OPEN_HOLE
        self.assertEqual(rings(floor, cells), [
            [(0, 1), (1, 1), (1, 2), (2, 2), (2, 1), (1, 1), (1, 0), (3, 0), (3, 3), (0, 3)],
        ])

    def test_rings_are_sorted(self):
        self.assertEqual(rings((3, 3), bits([2, 6, 0])), [
            SQUARE,
            [(0, 2), (1, 2), (1, 3), (0, 3)],
            [(2, 0), (3, 0), (3, 1), (2, 1)],
        ])

    def test_snakes_and_rims(self):
        self.assertEqual(len(rings(*SNAKE)), 1)
        self.assertEqual(rings(*RIM), [
            [(0, 0), (8, 0), (8, 8), (0, 8)],
            [(1, 1), (1, 7), (7, 7), (7, 1)],
        ])

    def test_many_sets(self):
        for floor, cells in many_cases():
            self.assertEqual(rings(floor, cells), rings_by_cells(floor, cells))

    def test_each_side_is_in_just_one_ring(self):
        for floor, cells in many_cases():
            walked = []
            for ring in rings(floor, cells):
                self.assertEqual(ring[0], min(ring))
                self.assertEqual(ring.count(ring[0]), 1)
                for (x, y), (over, up) in zip(ring, ring[1:] + ring[:1]):
                    length = abs(over - x) + abs(up - y)
                    step = ((over - x) // length, (up - y) // length)
                    walked.extend(
                        ((x + step[0] * k, y + step[1] * k), (x + step[0] * (k + 1), y + step[1] * (k + 1)))
                        for k in range(length)
                    )
            self.assertEqual(sorted(walked), sides(floor, cells))

    def test_the_rings_are_those_of_the_pieces(self):
        for floor, cells in many_cases():
            told = []
            for own in pieces(floor, cells):
                some = rings(floor, own)
                self.assertEqual(len([ring for ring in some if twice_area(ring) > 0]), 1)
                self.assertEqual([ring for ring in some if twice_area(ring) == 0], [])
                told.extend(some)
            self.assertEqual(rings(floor, cells), sorted(told))

    def test_kinds_are_lists_of_lists_of_points(self):
        told = rings(*HOLE)
        self.assertEqual([type(told), type(told[0]), type(told[0][0])], [list, list, tuple])

    def test_what_was_told_is_the_askers_own(self):
        told = rings(*HOLE)
        before = copy.deepcopy(told)
        told[0].clear()
        told[1].append((9, 9))
        told.append([])
        self.assertEqual(rings(*HOLE), before)


class TwiceArea(unittest.TestCase):
    def test_by_hand(self):
        self.assertEqual(twice_area(SQUARE), 2)
        self.assertEqual(twice_area(list(reversed(SQUARE))), -2)
        self.assertEqual(twice_area([(0, 0), (8, 0), (8, 8), (0, 8)]), 128)
        self.assertEqual(twice_area([(1, 1), (1, 2), (2, 2), (2, 1)]), -2)
        self.assertEqual(twice_area([(2, 1), (3, 1), (3, 3), (2, 3)]), 4)
        self.assertEqual(twice_area(rings(*TWO_HOLES)[1]), -4)
        self.assertEqual(twice_area(rings(*OPEN_HOLE)[0]), 14)

    def test_from_whichever_corner_on(self):
        for turn in range(4):
            self.assertEqual(twice_area(SQUARE[turn:] + SQUARE[:turn]), 2)

    def test_right_back_has_no_area(self):
        self.assertEqual(twice_area([(0, 0), (5, 0)]), 0)
        self.assertEqual(twice_area([(3, 3), (3, 7), (3, 5)]), 0)

    def test_all_together_come_to_twice_the_size(self):
        for floor, cells in many_cases():
            total = sum(twice_area(ring) for ring in rings(floor, cells))
            self.assertEqual(total, 2 * len(numbers(cells)))

    def test_the_ring_is_as_it_was(self):
        ring = list(SQUARE)
        twice_area(ring)
        self.assertEqual(ring, SQUARE)


class Inside(unittest.TestCase):
    def test_no_rings(self):
        for floor in FLOORS:
            self.assertEqual(inside(floor, []), 0)

    def test_inside_the_rings_of_cells_lie_these_cells(self):
        for floor, cells in many_cases():
            self.assertEqual(inside(floor, rings(floor, cells)), cells)

    def test_either_way_round_and_from_whichever_corner(self):
        for floor, cells in many_cases()[::5]:
            some = rings(floor, cells)
            self.assertEqual(inside(floor, [list(reversed(ring)) for ring in some]), cells)
            self.assertEqual(inside(floor, [ring[1:] + ring[:1] for ring in reversed(some)]), cells)

    def test_rings_that_are_alike(self):
        self.assertEqual(inside((3, 3), [SQUARE, SQUARE]), 0)
        self.assertEqual(inside((3, 3), [SQUARE, list(reversed(SQUARE))]), 0)
        self.assertEqual(inside((3, 3), [SQUARE, SQUARE, SQUARE]), 1)

    def test_rings_that_overlap_or_cross(self):
        wide = [(0, 1), (3, 1), (3, 2), (0, 2)]
        tall = [(1, 0), (2, 0), (2, 3), (1, 3)]
        self.assertEqual(inside((3, 3), [wide, tall]), bits([3, 5, 1, 7]))
        one = [(0, 0), (2, 0), (2, 2), (0, 2)]
        other = [(1, 1), (3, 1), (3, 3), (1, 3)]
        self.assertEqual(inside((3, 3), [one, other]), bits([0, 1, 3, 5, 7, 8]))
        self.assertEqual(inside((3, 3), [one, SQUARE]), bits([1, 3, 4]))

    def test_a_ring_that_crosses_itself(self):
        eight = [(0, 0), (1, 0), (1, 2), (2, 2), (2, 1), (0, 1)]
        self.assertEqual(inside((2, 2), [eight]), bits([0, 3]))
        twice = SQUARE + SQUARE
        self.assertEqual(inside((2, 2), [twice]), 0)

    def test_straight_on_at_a_corner(self):
        ring = [(0, 0), (1, 0), (3, 0), (3, 1), (3, 2), (3, 3), (1, 3), (0, 3), (0, 1)]
        self.assertEqual(inside((3, 3), [ring]), 511)

    def test_right_back_at_a_corner(self):
        ring = [(0, 0), (2, 0), (2, 3), (2, 1), (0, 1)]
        self.assertEqual(inside((3, 3), [ring]), bits([0, 1]))
        self.assertEqual(inside((3, 3), [[(1, 0), (1, 3)]]), 0)
        self.assertEqual(inside((3, 3), [[(0, 1), (3, 1)]]), 0)
        self.assertEqual(inside((3, 3), [[(1, 0), (1, 3), (1, 1), (1, 2)]]), 0)

    def test_the_stretch_from_the_last_corner_to_the_first_counts(self):
        self.assertEqual(inside((2, 2), [[(0, 2), (0, 0), (2, 0), (2, 2)]]), 15)
        self.assertEqual(inside((2, 2), [[(0, 0), (2, 0), (2, 2), (0, 2)]]), 15)

    def test_only_cells_of_the_floor_are_told(self):
        whole = [(0, 0), (2, 0), (2, 8), (0, 8)]
        self.assertEqual(inside((2, 8), [whole]), 2 ** 16 - 1)
        self.assertEqual(inside((8, 8), [[(7, 7), (8, 7), (8, 8), (7, 8)]]), 2 ** 63)
        self.assertEqual(inside((8, 8), [[(8, 0), (8, 8)]]), 0)

    def test_many_heaps_of_rings(self):
        for floor in FLOORS:
            sets = mixed_sets(floor, 24, 5)
            for one, other in zip(sets, sets[3:]):
                heap = rings(floor, one) + rings(floor, other)
                self.assertEqual(inside(floor, heap), one ^ other)
                self.assertEqual(inside(floor, heap), inside_by_count(floor, heap))

    def test_many_walks_that_come_back(self):
        state = 7
        for floor in FLOORS:
            for turn in range(30):
                ring = []
                x = y = 0
                for step in range(2 + turn % 7):
                    state = (state * 6364136223846793005 + 1442695040888963407) % 2 ** 64
                    x = (state >> 33) % (floor[0] + 1)
                    ring.append((x, y))
                    y = (state >> 45) % (floor[1] + 1)
                    ring.append((x, y))
                ring.append((0, y))
                ring.append((0, 0))
                self.assertEqual(inside(floor, [ring]), inside_by_count(floor, [ring]))
                self.assertEqual(inside(floor, [ring[::-1], ring]), 0)

    def test_the_rings_are_as_they_were(self):
        some = rings(*TWO_HOLES)
        before = copy.deepcopy(some)
        inside(TWO_HOLES[0], some)
        self.assertEqual(some, before)

    def test_changing_the_rings_later_changes_nothing(self):
        floor, cells = TWO_HOLES
        some = rings(floor, cells)
        told = inside(floor, some)
        some[0].clear()
        some.clear()
        self.assertEqual(told, cells)
        self.assertEqual(inside(floor, rings(floor, cells)), cells)


if __name__ == "__main__":
    unittest.main()
