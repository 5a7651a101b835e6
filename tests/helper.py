"""What the tests share: floors, cells, fractions and burdens drawn or mixed, and slow plain answers."""

from landroll import errors

# Things that are no whole numbers, whatever else they are.
NO_NUMBERS = (
    True, False, None, "", "1", "abc", [], [1], (), (1,), {}, {1: 1}, 1.0, 2.5, float("nan"), float("inf"),
    b"1", 1j, object(), int, range(3), frozenset([1]),
)

FLOORS = (
    (1, 1), (1, 2), (2, 1), (1, 8), (8, 1), (2, 2), (2, 8), (8, 2), (3, 3), (4, 3), (3, 5), (5, 4), (7, 8), (8, 7),
    (8, 8),
)


def bits(some):
    """The set of cells of some numbers, reckoned apart from the program."""
    return sum(2 ** cell for cell in set(some))


def numbers(cells):
    """The numbers of a set of cells, rising, reckoned apart from the program."""
    return [place for place, sign in enumerate(reversed(bin(cells)[2:])) if sign == "1"]


def drawn(*lines):
    """A floor and its cells, of lines from the highest row down: "#" is a cell of the set."""
    wide, high = len(lines[0]), len(lines)
    some = [
        row * wide + column
        for row, line in enumerate(reversed(lines))
        for column, sign in enumerate(line)
        if sign == "#"
    ]
    return (wide, high), bits(some)


def spot(floor, cell):
    """The (column, row) of a cell."""
    return cell % floor[0], cell // floor[0]


def touch(floor, one, other):
    """Whether two cells have a side in common."""
    (column, row), (over, up) = spot(floor, one), spot(floor, other)
    return abs(column - over) + abs(row - up) == 1


def mixed_sets(floor, many, seed=1):
    """Many sets of cells of a floor, thin and thick ones, the same ones each time."""
    state = seed
    told = []
    for turn in range(many):
        some = []
        thick = 1 + turn % 9
        for cell in range(floor[0] * floor[1]):
            state = (state * 6364136223846793005 + 1442695040888963407) % 2 ** 64
            if (state >> 33) % 10 < thick:
                some.append(cell)
        told.append(bits(some))
    return told


def all_sets(floor):
    """Every set of cells of a small floor."""
    return range(2 ** (floor[0] * floor[1]))


def chessboards(floor):
    """The two sets of cells that touch at corners alone."""
    some = [cell for cell in range(floor[0] * floor[1]) if sum(spot(floor, cell)) % 2 == 0]
    return bits(some), bits(range(floor[0] * floor[1])) - bits(some)


def many_cases():
    """Pairs (floor, cells): all sets of small floors, and on each floor none, all, chessboards and mixed ones."""
    told = []
    for floor in ((1, 1), (1, 4), (4, 1), (2, 3), (3, 2), (3, 3)):
        told.extend((floor, cells) for cells in all_sets(floor))
    for floor in FLOORS:
        sets = [0, bits(range(floor[0] * floor[1]))]
        sets.extend(chessboards(floor))
        sets.extend(mixed_sets(floor, 40))
        told.extend((floor, cells) for cells in sets)
    return told


def clumps(floor, cells):
    """The pieces of cells as lists of numbers, by joining clumps that touch, by their lowest cells."""
    told = []
    for cell in numbers(cells):
        near = [clump for clump in told if any(touch(floor, cell, other) for other in clump)]
        told = [clump for clump in told if clump not in near]
        told.append(sorted([cell] + [other for clump in near for other in clump]))
    return sorted(told)


SNAKE = drawn(
    "########",
    "#.......",
    "########",
    ".......#",
    "########",
    "#.......",
    "########",
    ".......#",
)

RIM = drawn(
    "########",
    "#......#",
    "#......#",
    "#......#",
    "#......#",
    "#......#",
    "#......#",
    "########",
)


def refused(case, kind, call, *things):
    """Holds that a call is refused with just this class of refusal, and with no other one."""
    with case.subTest(things=things):
        with case.assertRaises(kind) as taken:
            call(*things)
        case.assertIs(type(taken.exception), kind)
        case.assertIsInstance(taken.exception, errors.LandError)
        case.assertIsInstance(taken.exception, ValueError)
        for other in vars(errors).values():
            if isinstance(other, type) and other not in (kind, errors.LandError):
                case.assertNotIsInstance(taken.exception, other)


class Mix:
    """Numbers that look mixed up, the same ones each time."""

    def __init__(self, seed=1):
        self.state = seed

    def below(self, top):
        """A number from 0 on and below top."""
        told = 0
        for turn in range(1 + top.bit_length() // 30):
            self.state = (self.state * 6364136223846793005 + 1442695040888963407) % 2 ** 64
            told = told * 2 ** 31 + (self.state >> 33)
        return told % top

    def one_of(self, some):
        return some[self.below(len(some))]

    def some_of(self, some, many):
        """So many of some things, in a mixed order, each place once."""
        rest = list(some)
        return [rest.pop(self.below(len(rest))) for turn in range(min(many, len(rest)))]

    def cells(self, wide=64):
        """Cells with numbers below wide: now and then none or all, else thin or thick."""
        way = self.below(8)
        if way == 0:
            return 0
        if way == 1:
            return 2 ** wide - 1
        if way < 4:
            return self.below(2 ** wide) & self.below(2 ** wide)
        return self.below(2 ** wide)


def burden(number, kind="debt", holder="ann", amount=0, until=0):
    return (number, kind, holder, amount, until)


BURDENS = tuple(
    burden(number, kind, holder, amount, until)
    for number, kind, holder, amount, until in (
        (1, "debt", "ann", 500, 0), (2, "way", "bob", 0, 0), (3, "buy", "cid", 10 ** 12, 0), (4, "note", "ann", 7, 90),
        (5, "debt", "ann", 500, 0), (9, "note", "zoe", 0, 10 ** 9), (10, "debt", "abcdefgh", 1, 0),
        (100, "way", "a", 0, 0), (10 ** 9, "buy", "ann", 3, 0),
    )
)


def columns_of(strips):
    """A dict that gives to each cell of the ground of strips its column."""
    return {cell: column for cells, column in strips for cell in numbers(cells)}


def strips_from(columns):
    """The strips of a dict of columns by cells, found cell by cell."""
    told = []
    for cell in sorted(columns):
        for place, (cells, column) in enumerate(told):
            if column == columns[cell]:
                told[place] = (cells + 2 ** cell, column)
                break
        else:
            told.append((2 ** cell, columns[cell]))
    return tuple(told)


def mixed_columns(mix, cells, deep=4, kinds=4):
    """A column for each of some cells, of BURDENS, of at most so many kinds and so deep."""
    pool = [tuple(mix.some_of(BURDENS, mix.below(deep + 1))) for turn in range(1 + mix.below(kinds))]
    return {cell: mix.one_of(pool) for cell in numbers(cells)}


def mixed_strips(mix, deep=4, kinds=4):
    """Strips of a mixed ground, now and then of none."""
    return strips_from(mixed_columns(mix, mix.cells(), deep, kinds))


def good_strips(case, strips):
    """Holds that strips have the one form of [31], and are made of tuples and plain numbers."""
    case.assertIs(type(strips), tuple)
    case.assertEqual(strips, strips_from(columns_of(strips)))
    case.assertEqual(sum(cells.bit_count() for cells, column in strips), len(columns_of(strips)))
    for strip in strips:
        case.assertEqual([type(thing) for thing in (strip,) + strip], [tuple, int, tuple])
        case.assertEqual(len({one[0] for one in strip[1]}), len(strip[1]))
        case.assertTrue(all(type(one) is tuple for one in strip[1]))
