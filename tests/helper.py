"""What the tests share: floors, sets of cells drawn or mixed, and slow plain answers to hold the program against."""

# Things that are no whole numbers, whatever else they are.
NO_NUMBERS = (
    True, False, None, "", "1", "abc", [], [1], (), (1,), {}, {1: 1}, 1.0, 2.5, float("nan"), float("inf"),
    b"1", 1j, object(), int, range(3), frozenset([1]),
)

FLOORS = (
    (1, 1), (1, 2), (2, 1), (1, 8), (8, 1), (2, 2), (2, 8), (8, 2), (3, 3), (4, 3), (3, 5), (5, 4), (7, 8), (8, 7),
    (8, 8),
)


def bits(some):
    """The set of cells of some numbers, reckoned apart from the program."""
    return sum(2 ** cell for cell in set(some))


def numbers(cells):
    """The numbers of a set of cells, rising, reckoned apart from the program."""
    return [place for place, sign in enumerate(reversed(bin(cells)[2:])) if sign == "1"]


def drawn(*lines):
    """A floor and its cells, of lines from the highest row down: "#" is a cell of the set."""
    wide, high = len(lines[0]), len(lines)
    some = [
        row * wide + column
        for row, line in enumerate(reversed(lines))
        for column, sign in enumerate(line)
        if sign == "#"
    ]
    return (wide, high), bits(some)


def spot(floor, cell):
    """The (column, row) of a cell."""
    return cell % floor[0], cell // floor[0]


def touch(floor, one, other):
    """Whether two cells have a side in common."""
    (column, row), (over, up) = spot(floor, one), spot(floor, other)
    return abs(column - over) + abs(row - up) == 1


def mixed_sets(floor, many, seed=1):
    """Many sets of cells of a floor, thin and thick ones, the same ones each time."""
    state = seed
    told = []
    for turn in range(many):
        some = []
        thick = 1 + turn % 9
        for cell in range(floor[0] * floor[1]):
            state = (state * 6364136223846793005 + 1442695040888963407) % 2 ** 64
            if (state >> 33) % 10 < thick:
                some.append(cell)
        told.append(bits(some))
    return told


def all_sets(floor):
    """Every set of cells of a small floor."""
    return range(2 ** (floor[0] * floor[1]))


def chessboards(floor):
    """The two sets of cells that touch at corners alone."""
    some = [cell for cell in range(floor[0] * floor[1]) if sum(spot(floor, cell)) % 2 == 0]
    return bits(some), bits(range(floor[0] * floor[1])) - bits(some)


def many_cases():
    """Pairs (floor, cells): all sets of small floors, and on each floor none, all, chessboards and mixed ones."""
    told = []
    for floor in ((1, 1), (1, 4), (4, 1), (2, 3), (3, 2), (3, 3)):
        told.extend((floor, cells) for cells in all_sets(floor))
    for floor in FLOORS:
        sets = [0, bits(range(floor[0] * floor[1]))]
        sets.extend(chessboards(floor))
        sets.extend(mixed_sets(floor, 40))
        told.extend((floor, cells) for cells in sets)
    return told


def clumps(floor, cells):
    """The pieces of cells as lists of numbers, by joining clumps that touch, by their lowest cells."""
    told = []
    for cell in numbers(cells):
        near = [clump for clump in told if any(touch(floor, cell, other) for other in clump)]
        told = [clump for clump in told if clump not in near]
        told.append(sorted([cell] + [other for clump in near for other in clump]))
    return sorted(told)


SNAKE = drawn(
    "########",
    "#.......",
    "########",
    ".......#",
    "########",
    "#.......",
    "########",
    ".......#",
)

RIM = drawn(
    "########",
    "#......#",
    "#......#",
    "#......#",
    "#......#",
    "#......#",
    "#......#",
    "########",
)
