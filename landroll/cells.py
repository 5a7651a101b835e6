"""The floor, its cells, and sets of cells, each set the bits of one whole number."""

from landroll.errors import BadCells, BadFloor

SIDE = 8


# Python takes True and False for ints; the document doesn't.
def is_number(thing):
    return isinstance(thing, int) and not isinstance(thing, bool)


def is_length(thing):
    return is_number(thing) and 1 <= thing <= SIDE


def floor_of(wide, high):
    if not is_length(wide) or not is_length(high):
        raise BadFloor("a floor is 1 to 8 cells wide and 1 to 8 high")
    return (wide, high)


def every(floor):
    return (1 << (floor[0] * floor[1])) - 1


def is_cell(thing):
    return is_number(thing) and 0 <= thing < SIDE * SIDE


def cells_of(some):
    cells = 0
    for thing in some:
        if not is_cell(thing):
            raise BadCells("a cell is a whole number from 0 to 63")
        cells = cells | (1 << thing)
    return cells


def has(cells, cell):
    return cell >= 0 and (cells >> cell) & 1 == 1


def listed(cells):
    return [cell for cell in range(cells.bit_length()) if has(cells, cell)]


def size_of(cells):
    return len(listed(cells))


def lowest(cells):
    if cells == 0:
        return None
    return (cells & -cells).bit_length() - 1


def column_of(floor, cell):
    return cell % floor[0]


def row_of(floor, cell):
    return cell // floor[0]


def beside(floor, cell):
    wide = floor[0]
    found = []
    if row_of(floor, cell) > 0:
        found.append(cell - wide)
    if column_of(floor, cell) > 0:
        found.append(cell - 1)
    if column_of(floor, cell) < wide - 1:
        found.append(cell + 1)
    if row_of(floor, cell) < floor[1] - 1:
        found.append(cell + wide)
    return found
