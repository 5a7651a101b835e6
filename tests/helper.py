"""What the tests share: floors, cells, shares, burdens, plots and rows drawn or mixed, and slow plain answers."""

from fractions import Fraction

from landroll import errors

# Things that are no whole numbers, whatever else they are.
NO_NUMBERS = (
    True, False, None, "", "1", "abc", [], [1], (), (1,), {}, {1: 1}, 1.0, 2.5, float("nan"), float("inf"),
    b"1", 1j, object(), int, range(3), frozenset([1]),
)


class Echo:
    """A thing that says of itself that it is equal to whatever it is held against."""

    def __eq__(self, other):
        return True

    def __hash__(self):
        return 0


class Sulk:
    """A thing that can be neither compared, nor kept as a key, nor asked whether it is true."""

    __hash__ = None

    def __eq__(self, other):
        raise RuntimeError("compared")

    __lt__ = __le__ = __gt__ = __ge__ = __ne__ = __eq__

    def __bool__(self):
        raise RuntimeError("asked")


FLOORS = (
    (1, 1), (1, 2), (2, 1), (1, 8), (8, 1), (2, 2), (2, 8), (8, 2), (3, 3), (4, 3), (3, 5), (5, 4), (7, 8), (8, 7),
    (8, 8),
)


def bits(some):
    """The set of cells of some numbers, reckoned apart from the program."""
    return sum(2 ** cell for cell in set(some))


def numbers(cells):
    """The numbers of a set of cells, rising, reckoned apart from the program."""
    return [place for place, sign in enumerate(reversed(bin(cells)[2:])) if sign == "1"]


def drawn(*lines):
    """A floor and its cells, of lines from the highest row down: "#" is a cell of the set."""
    wide, high = len(lines[0]), len(lines)
    some = [
        row * wide + column
        for row, line in enumerate(reversed(lines))
        for column, sign in enumerate(line)
        if sign == "#"
    ]
    return (wide, high), bits(some)


def spot(floor, cell):
    """The (column, row) of a cell."""
    return cell % floor[0], cell // floor[0]


def touch(floor, one, other):
    """Whether two cells have a side in common."""
    (column, row), (over, up) = spot(floor, one), spot(floor, other)
    return abs(column - over) + abs(row - up) == 1


def mixed_sets(floor, many, seed=1):
    """Many sets of cells of a floor, thin and thick ones, the same ones each time."""
    state = seed
    told = []
    for turn in range(many):
        some = []
        thick = 1 + turn % 9
        for cell in range(floor[0] * floor[1]):
            state = (state * 6364136223846793005 + 1442695040888963407) % 2 ** 64
            if (state >> 33) % 10 < thick:
                some.append(cell)
        told.append(bits(some))
    return told


def all_sets(floor):
    """Every set of cells of a small floor."""
    return range(2 ** (floor[0] * floor[1]))


def chessboards(floor):
    """The two sets of cells that touch at corners alone."""
    some = [cell for cell in range(floor[0] * floor[1]) if sum(spot(floor, cell)) % 2 == 0]
    return bits(some), bits(range(floor[0] * floor[1])) - bits(some)


def many_cases():
    """Pairs (floor, cells): all sets of small floors, and on each floor none, all, chessboards and mixed ones."""
    told = []
    for floor in ((1, 1), (1, 4), (4, 1), (2, 3), (3, 2), (3, 3)):
        told.extend((floor, cells) for cells in all_sets(floor))
    for floor in FLOORS:
        sets = [0, bits(range(floor[0] * floor[1]))]
        sets.extend(chessboards(floor))
        sets.extend(mixed_sets(floor, 40))
        told.extend((floor, cells) for cells in sets)
    return told


def clumps(floor, cells):
    """The pieces of cells as lists of numbers, by joining clumps that touch, by their lowest cells."""
    told = []
    for cell in numbers(cells):
        near = [clump for clump in told if any(touch(floor, cell, other) for other in clump)]
        told = [clump for clump in told if clump not in near]
        told.append(sorted([cell] + [other for clump in near for other in clump]))
    return sorted(told)


SNAKE = drawn(
    "########",
    "#.......",
    "########",
    ".......#",
    "########",
    "#.......",
    "########",
    ".......#",
)

RIM = drawn(
    "########",
    "#......#",
    "#......#",
    "#......#",
    "#......#",
    "#......#",
    "#......#",
    "########",
)


def refused(case, kind, call, *things):
    """Holds that a call is refused with just this class of refusal, and with no other one."""
    with case.subTest(things=things):
        with case.assertRaises(kind) as taken:
            call(*things)
        case.assertIs(type(taken.exception), kind)
        case.assertIsInstance(taken.exception, errors.LandError)
        case.assertIsInstance(taken.exception, ValueError)
        for other in vars(errors).values():
            if isinstance(other, type) and other not in (kind, errors.LandError):
                case.assertNotIsInstance(taken.exception, other)


class Mix:
    """Numbers that look mixed up, the same ones each time."""

    def __init__(self, seed=1):
        self.state = seed

    def below(self, top):
        """A number from 0 on and below top."""
        told = 0
        for turn in range(1 + top.bit_length() // 30):
            self.state = (self.state * 6364136223846793005 + 1442695040888963407) % 2 ** 64
            told = told * 2 ** 31 + (self.state >> 33)
        return told % top

    def one_of(self, some):
        return some[self.below(len(some))]

    def some_of(self, some, many):
        """So many of some things, in a mixed order, each place once."""
        rest = list(some)
        return [rest.pop(self.below(len(rest))) for turn in range(min(many, len(rest)))]

    def cells(self, wide=64):
        """Cells with numbers below wide: now and then none or all, else thin or thick."""
        way = self.below(8)
        if way == 0:
            return 0
        if way == 1:
            return 2 ** wide - 1
        if way < 4:
            return self.below(2 ** wide) & self.below(2 ** wide)
        return self.below(2 ** wide)


def burden(number, kind="debt", holder="ann", amount=0, until=0):
    return (number, kind, holder, amount, until)


BURDENS = tuple(
    burden(number, kind, holder, amount, until)
    for number, kind, holder, amount, until in (
        (1, "debt", "ann", 500, 0), (2, "way", "bob", 0, 0), (3, "buy", "cid", 10 ** 12, 0), (4, "note", "ann", 7, 90),
        (5, "debt", "ann", 500, 0), (9, "note", "zoe", 0, 10 ** 9), (10, "debt", "abcdefgh", 1, 0),
        (100, "way", "a", 0, 0), (10 ** 9, "buy", "ann", 3, 0),
    )
)


def columns_of(strips):
    """A dict that gives to each cell of the ground of strips its column."""
    return {cell: column for cells, column in strips for cell in numbers(cells)}


def strips_from(columns):
    """The strips of a dict of columns by cells, found cell by cell."""
    told = []
    for cell in sorted(columns):
        for place, (cells, column) in enumerate(told):
            if column == columns[cell]:
                told[place] = (cells + 2 ** cell, column)
                break
        else:
            told.append((2 ** cell, columns[cell]))
    return tuple(told)


def mixed_columns(mix, cells, deep=4, kinds=4, some=BURDENS):
    """A column for each of some cells, of some burdens, of at most so many kinds and so deep."""
    pool = [tuple(mix.some_of(some, mix.below(deep + 1))) for turn in range(1 + mix.below(kinds))]
    return {cell: mix.one_of(pool) for cell in numbers(cells)}


def mixed_strips(mix, deep=4, kinds=4):
    """Strips of a mixed ground, now and then of none."""
    return strips_from(mixed_columns(mix, mix.cells(), deep, kinds))


def good_strips(case, strips):
    """Holds that strips have the one form of [31], and are made of tuples and plain numbers."""
    case.assertIs(type(strips), tuple)
    case.assertEqual(strips, strips_from(columns_of(strips)))
    case.assertEqual(sum(cells.bit_count() for cells, column in strips), len(columns_of(strips)))
    for strip in strips:
        case.assertEqual([type(thing) for thing in (strip,) + strip], [tuple, int, tuple])
        case.assertEqual(len({one[0] for one in strip[1]}), len(strip[1]))
        case.assertTrue(all(type(one) is tuple for one in strip[1]))


def by_numbers(columns):
    """All burdens of some columns, each once, by number, found apart from the program."""
    return tuple(sorted({one for column in columns for one in column}))


def place_due(column, told):
    """Where a burden comes in that is laid with these numbers told."""
    if told is None:
        return len(column)
    return max([0] + [place + 1 for place in range(len(column)) if column[place][0] in told])


def laid_due(strips, ground, new, told):
    columns = columns_of(strips)
    for cell in columns:
        if cell in numbers(ground):
            some = list(columns[cell])
            some.insert(place_due(some, told), new)
            columns[cell] = tuple(some)
    return strips_from(columns)


def overtaken_due(strips, ground, told):
    columns = columns_of(strips)
    return by_numbers(
        columns[cell][place_due(columns[cell], told):] for cell in columns if cell in numbers(ground)
    )


def lifted_due(strips, number):
    columns = columns_of(strips)
    return strips_from({cell: tuple(one for one in columns[cell] if one[0] != number) for cell in columns})


def filled_due(strips, ground, note, new):
    columns = columns_of(strips)
    for cell in columns:
        some = [new if one[0] == note else one for one in columns[cell]]
        if cell not in numbers(ground):
            some = [one for one in some if one != new]
        elif new not in some:
            some.append(new)
        columns[cell] = tuple(some)
    return strips_from(columns)


def waived_due(strips, number, ahead):
    """The strips that are due, and the passed ones."""
    columns = columns_of(strips)
    gone_by = []
    for cell in columns:
        some = list(columns[cell])
        own = [one[0] for one in some]
        if number in own and ahead in own and own.index(ahead) > own.index(number):
            first, last = own.index(number), own.index(ahead)
            gone_by.append(some[first:last])
            some.insert(first, some.pop(last))
            columns[cell] = tuple(some)
    return strips_from(columns), by_numbers(gone_by)


BIG = 10 ** 60
NAMES = ("a", "ann", "annabell", "bob", "cid", "dot", "eve", "z", "zoe", "zzzzzzzz")
NO_NAMES = (
    "", "abcdefghi", "a" * 100, "A", "Ann", "anN", "ann1", "1", "0", " ", "a b", " a", "a ", "a\n", "\n", "a-b", "a_b",
    "a.b", "`", "{", "\u00e4", "\u00df", "\u0430", "\u0131", "\uff41", "\u00aa", "a\u0301", "\x00", "a\x00",
    "\ud800", ("ann",), ["ann"], ["a"], {"ann": 1}, {"a"}, b"ann", b"a", 0, 1, 10 ** 30,
) + tuple(thing for thing in NO_NUMBERS if thing != "abc")


def pair(number):
    return (number.numerator, number.denominator)


def plain(shares):
    """A dict of Python's own fractions by names."""
    return {name: Fraction(*share) for name, share in shares}


def shares_from(held):
    """The shares of such a dict, without those who hold nought."""
    return tuple((name, pair(held[name])) for name in sorted(held) if held[name] != 0)


def is_too_fine(held):
    return any(number.denominator > BIG for number in held.values())


def mixed_shares(mix, most=6, figures=6):
    """Shares of some of NAMES."""
    names = mix.some_of(NAMES, 1 + mix.below(most))
    counts = [1 + mix.below(10 ** (1 + mix.below(figures))) for name in names]
    return shares_from({name: Fraction(count, sum(counts)) for name, count in zip(names, counts)})


def handed(shares, giver, taker, part):
    held = plain(shares)
    held[giver] = held.get(giver, 0) - Fraction(*part)
    held[taker] = held.get(taker, 0) + Fraction(*part)
    return held


def blended(one, many, other, more):
    one, other = plain(one), plain(other)
    return {
        name: (many * one.get(name, Fraction(0)) + more * other.get(name, Fraction(0))) / (many + more)
        for name in list(one) + list(other)
    }


def squeezed(shares, giver, taker, part):
    """What is due by [23]: the shares, as a dict, and the losses."""
    held = plain(shares)
    if giver == taker:
        return held, ()
    part = Fraction(*part)
    given = min(part, held.get(giver, Fraction(0)))
    others = {name: held[name] for name in held if name not in (giver, taker)}
    whole = sum(others.values())
    taken = min(part - given, whole)
    losses = {name: taken * others[name] / whole for name in others}
    for name in losses:
        held[name] -= losses[name]
    if giver in held:
        held[giver] -= given
    held[taker] = held.get(taker, Fraction(0)) + given + taken
    return held, shares_from(losses)


# Enough of them for a column that is too deep; no paper of mixed_row has one of their numbers.
BEARINGS = BURDENS + tuple(
    burden(number, kind, holder, 5, until)
    for number, kind, holder, until in (
        (20, "note", "bob", 41), (21, "note", "bob", 40), (22, "note", "dot", 39), (23, "buy", "eve", 0),
        (24, "buy", "ann", 0), (25, "way", "zoe", 0), (26, "debt", "cid", 0), (27, "note", "annabell", 10 ** 9),
    )
)
DATES = (0, 1, 39, 40, 41, 89, 90, 91, 10 ** 9)


def mixed_plots(mix, floor):
    """Plots of a floor, in a mixed order, some waste between them."""
    colours = [mix.below(1 + mix.below(4)) for cell in range(floor[0] * floor[1])]
    told = []
    for colour in range(1 + mix.below(3), -1, -1):
        for clump in clumps(floor, bits(cell for cell, own in enumerate(colours) if own == colour)):
            if mix.below(6) > 0:
                columns = mixed_columns(mix, bits(clump), mix.one_of((0, 2, 5, 12)), 4, BEARINGS)
                if mix.below(5) == 0:
                    columns[mix.one_of(clump)] = tuple(mix.some_of(BEARINGS, 11 + mix.below(2)))
                shares = mixed_shares(mix, 3, mix.one_of((2, 6, 59)))
                told.append((bits(clump), shares, strips_from(columns), 200 + mix.below(99)))
    return told


def plot_of(plots, cell):
    """The plot at a cell, or None, found apart from the program."""
    return next((plot for plot in plots if cell in numbers(plot[0])), None)


def mixed_signed(mix, names):
    """All of some names, all but one, some of them, or none; sorted."""
    way = mix.below(8)
    if way == 0:
        return ()
    if way == 1:
        return tuple(sorted(mix.some_of(names, mix.below(len(names)))))
    lacking = mix.one_of(names) if way < 4 else None
    return tuple(sorted(name for name in names if name != lacking))


def mixed_part(mix):
    bottom = 1 + mix.below(mix.one_of((2, 9, 9, 10 ** 9)))
    return pair(Fraction(1 + mix.below(bottom), bottom))


def mixed_ground(mix, floor, plots, at):
    """0, the cells of the plot at a cell, or other cells with this one among them."""
    way = mix.below(5)
    if way < 2:
        return 0
    if way < 4 and plot_of(plots, at):
        return plot_of(plots, at)[0]
    return mix.below(2 ** (floor[0] * floor[1])) | 2 ** at


def mixed_way(mix, floor, plots, at):
    """Cells in one piece, mostly within the plot at a cell."""
    plot = plot_of(plots, at)
    within = plot[0] if plot and mix.below(5) else 2 ** (floor[0] * floor[1]) - 1
    some = clumps(floor, within & mix.below(2 ** (floor[0] * floor[1])))
    return bits(mix.one_of(some)) if some else 2 ** at


def mixed_row(mix, floor, plots, kind):
    """A good row of a kind for a floor that has often to do with its plots."""
    at = mix.below(floor[0] * floor[1])
    if plots and mix.below(6):
        at = mix.one_of(numbers(mix.one_of(plots)[0]))
    plot = plot_of(plots, at)
    standing = sorted({one[0] for cells, column in plot[2] for one in column} if plot else set())
    burdens = standing + [mix.one_of(BEARINGS)[0], 77]
    trust = mix.one_of((None, 0, 10 ** 9))
    first = (kind, 300 + mix.below(99), mix.one_of(DATES), mixed_signed(mix, NAMES))
    if kind == "grant":
        waste = [clump for clump in clumps(floor, 2 ** (floor[0] * floor[1]) - 1 - sum(plot[0] for plot in plots))]
        cells = bits(mix.one_of(waste)) if waste and mix.below(4) else mixed_way(mix, floor, [], at)
        return first + (cells, mixed_shares(mix, 3))
    if kind == "cut":
        axis = mix.below(2)
        near = spot(floor, mix.one_of(numbers(plot[0]) if plot else [at]))[axis]
        return first + (at, "xy"[axis], mix.one_of((near, near, near + 1, mix.below(9))))
    if kind == "join":
        own = plot[0] if plot else 2 ** at
        near = [cell for cell in range(floor[0] * floor[1]) if any(touch(floor, cell, one) for one in numbers(own))]
        near = [cell for cell in near if plot_of(plots, cell) != plot]
        others = [cell for cell in range(floor[0] * floor[1]) if cell != at]
        return first + (at, mix.one_of(near if near and mix.below(3) else others))
    if kind == "give":
        giver, taker = mix.some_of(NAMES, 2)
        if plot and mix.below(5):
            giver = mix.one_of(plot[1])[0]
            taker = mix.one_of([name for name in NAMES if name != giver])
        return first + (at, giver, taker, mixed_part(mix), mixed_ground(mix, floor, plots, at), trust)
    if kind == "lay":
        sort = mix.one_of(("debt", "way", "way", "buy", "note"))
        note = mix.one_of(burdens) if sort != "note" and mix.below(2) else 0
        holders = [one[2] for one in BEARINGS if one[0] == note] if mix.below(5) else []
        what = (sort, mix.one_of(holders or NAMES), mix.below(9), mix.one_of(DATES) if sort == "note" else 0)
        over = mixed_way(mix, floor, plots, at) if sort == "way" else 0
        return first + (at,) + what + (over, note, mixed_ground(mix, floor, plots, at), trust)
    if kind == "lift":
        return first + (at, mix.one_of(burdens))
    pool = standing if len(standing) > 1 and mix.below(4) else sorted(set(burdens))
    return first + (at,) + tuple(mix.some_of(pool, 2))


def falls_due(word, who=""):
    return (word, who, (), (), ())


def does_due(gone, made, losses=()):
    return ("stands", "", tuple(gone), tuple(sorted(made, key=lambda plot: numbers(plot[0]))), tuple(losses))


def lacking(row, names):
    """The first of some names that didn't sign, or None."""
    return ([name for name in names if name not in row[3]] + [None])[0]


def due(floor, row, plots, told=None):
    """What is due by [42] to [48], found apart from the program: (word, who, gone, made, losses)."""
    if row[0] == "grant":
        if any(plot_of(plots, cell) for cell in numbers(row[4])):
            return falls_due("taken")
        return does_due([], [(row[4], row[5], ((row[4], ()),), row[1])])
    plot = plot_of(plots, row[4])
    if plot is None:
        return falls_due("waste")
    ways = {"cut": cut_due, "join": join_due, "give": give_due, "lay": lay_due, "lift": lift_due, "waive": waive_due}
    return ways[row[0]](floor, row, plots, told, plot)


def cut_due(floor, row, plots, told, plot):
    cells, shares, strips, last = plot
    who = lacking(row, [name for name, share in shares])
    if who:
        return falls_due("sign", who)
    low = [cell for cell in numbers(cells) if spot(floor, cell)["xy".index(row[5])] < row[6]]
    high = [cell for cell in numbers(cells) if cell not in low]
    if not low or not high:
        return falls_due("line")
    columns = columns_of(strips)
    made = []
    for clump in clumps(floor, bits(low)) + clumps(floor, bits(high)):
        made.append((bits(clump), shares, strips_from({cell: columns[cell] for cell in clump}), row[1]))
    return does_due([plot], made)


def join_due(floor, row, plots, told, plot):
    other = plot_of(plots, row[5])
    if other is None:
        return falls_due("waste")
    if row[5] in numbers(plot[0]):
        return falls_due("one")
    who = lacking(row, sorted({name for name, share in plot[1] + other[1]}))
    if who:
        return falls_due("sign", who)
    if not any(touch(floor, one, two) for one in numbers(plot[0]) for two in numbers(other[0])):
        return falls_due("apart")
    held = blended(plot[1], len(numbers(plot[0])), other[1], len(numbers(other[0])))
    if is_too_fine(held):
        return falls_due("fine")
    strips = strips_from({**columns_of(plot[2]), **columns_of(other[2])})
    return does_due([plot, other], [(plot[0] + other[0], shares_from(held), strips, row[1])])


def is_other_ground(plot, ground):
    return ground != 0 and numbers(ground) != numbers(plot[0])


def give_due(floor, row, plots, told, plot):
    giver, taker, part, ground = row[5:9]
    if is_other_ground(plot, ground):
        return falls_due("other")
    asked = []
    for number, kind, holder, amount, until in by_numbers(columns_of(plot[2]).values()):
        if holder != taker and (kind == "buy" or kind == "note" and not until < row[2]):
            asked.append((number, holder))
    who = lacking(row, [giver] + [holder for number, holder in asked if told is None])
    if who:
        return falls_due("sign", who)
    if told is None and plain(plot[1]).get(giver, 0) < Fraction(*part):
        return falls_due("share")
    losses = []
    if told is None:
        held = handed(plot[1], giver, taker, part)
    else:
        held, pressed = squeezed(plot[1], giver, taker, part)
        losses = [("share",) + loss for loss in pressed]
        losses += [("right", holder, number) for number, holder in asked if holder not in row[3]]
    if is_too_fine(held):
        return falls_due("fine")
    return does_due([plot], [(plot[0], shares_from(held), plot[2], row[1])], losses)


def lay_due(floor, row, plots, told, plot):
    kind, holder, amount, until, over, note, ground = row[5:12]
    if is_other_ground(plot, ground):
        return falls_due("other")
    if any(cell not in numbers(plot[0]) for cell in numbers(over)):
        return falls_due("over")
    heeds = told is not None and note == 0
    standing = by_numbers(columns_of(plot[2]).values())
    if note and not [one for one in standing if one[:3] == (note, "note", holder) and one[4] >= row[2]]:
        return falls_due("note")
    who = lacking(row, [name for name, share in plot[1]])
    if who and not heeds:
        return falls_due("sign", who)
    new = (row[1], kind, holder, amount, until)
    cells = over if kind == "way" else plot[0]
    strips = filled_due(plot[2], cells, note, new) if note else laid_due(plot[2], cells, new, told)
    if any(len(column) > 12 for column in columns_of(strips).values()):
        return falls_due("many")
    losses = []
    if heeds:
        losses = [("ground", name, row[1]) for name, share in plot[1] if name not in row[3]]
        losses += [("rank", one[2], one[0]) for one in overtaken_due(plot[2], cells, told)]
    return does_due([plot], [(plot[0], plot[1], strips, row[1])], losses)


def lift_due(floor, row, plots, told, plot):
    found = [one for one in by_numbers(columns_of(plot[2]).values()) if one[0] == row[5]]
    if not found:
        return falls_due("burden")
    if found[0][2] not in row[3]:
        return falls_due("sign", found[0][2])
    return does_due([plot], [(plot[0], plot[1], lifted_due(plot[2], row[5]), row[1])])


def waive_due(floor, row, plots, told, plot):
    standing = [one[0] for one in by_numbers(columns_of(plot[2]).values())]
    if row[5] not in standing or row[6] not in standing:
        return falls_due("burden")
    strips, gone_by = waived_due(plot[2], row[5], row[6])
    if not gone_by:
        return falls_due("rank")
    who = lacking(row, [one[2] for one in gone_by])
    if who:
        return falls_due("sign", who)
    return does_due([plot], [(plot[0], plot[1], strips, row[1])])


KINDS = ("grant", "cut", "join", "give", "lay", "lift", "waive")


def mixed_told(mix):
    """Nothing told, () or some numbers of burdens, some of which lie nowhere."""
    if mix.below(2) == 0:
        return None
    return tuple(mix.some_of([one[0] for one in BEARINGS] + [77], mix.below(7)))


def unchanging(case, thing):
    """Holds that a thing is made of tuples, whole numbers, texts and None alone, so that nobody can change it."""
    if type(thing) is tuple:
        for part in thing:
            unchanging(case, part)
    else:
        case.assertIn(type(thing), (int, str, type(None)))


def good_plot(case, floor, plot):
    """Holds that a plot has the form of [40]: one piece, shares of one together, strips that are its cells."""
    unchanging(case, plot)
    cells, shares, strips, last = plot
    case.assertEqual(len(clumps(floor, cells)), 1)
    case.assertEqual(shares, shares_from(plain(shares)))
    case.assertEqual(sum(plain(shares).values()), 1)
    case.assertFalse(is_too_fine(plain(shares)))
    good_strips(case, strips)
    case.assertEqual(sorted(columns_of(strips)), numbers(cells))


def answer(floor, paper, plots, *told):
    """What a paper does or how it falls, as due tells it."""
    try:
        return ("stands", "") + paper.done(floor, plots, *told)
    except errors.Falls as taken:
        return falls_due(taken.word, taken.who)


def done_of(case, floor, paper, plots, *told):
    """The answer of a paper; holds its form, and that nothing that was handed in is changed by asking, now or later."""
    before, fields = list(plots), dict(vars(paper))
    first = answer(floor, paper, plots, *told)
    case.assertEqual(plots, before)
    case.assertEqual(vars(paper), fields)
    unchanging(case, first)
    for plot in first[3]:
        good_plot(case, floor, plot)
        case.assertEqual(plot[3], paper.number)
    handed_in = list(before)
    again = answer(floor, paper, handed_in, *told)
    handed_in.clear()
    case.assertEqual(first, again)
    case.assertEqual(answer(floor, paper, list(reversed(before)), *told), first)
    return first
