"""How cells hang together: pieces, ways, the parts by a line, seams."""

from landroll.cells import beside, column_of, has, listed, lowest, row_of


def grown(floor, cells):
    found = cells
    for cell in listed(cells):
        for near in beside(floor, cell):
            found = found | (1 << near)
    return found


def piece(floor, cells, cell):
    if not has(cells, cell):
        return 0
    found = 0
    fresh = 1 << cell
    while fresh != 0:
        found = found | fresh
        fresh = grown(floor, fresh) & cells & ~found
    return found


# Each piece is taken from the lowest cell left, so they come by their lowest cells.
def pieces(floor, cells):
    found = []
    rest = cells
    while rest != 0:
        taken = piece(floor, rest, lowest(rest))
        found.append(taken)
        rest = rest & ~taken
    return found


def is_one(floor, cells):
    return len(pieces(floor, cells)) == 1


# Walked from the goal back, so that the way can be told from its beginning on, step by step nearer.
def steps_to(floor, cells, goal):
    nearer = {goal: goal}
    reached = [goal]
    place = 0
    while place < len(reached):
        for cell in beside(floor, reached[place]):
            if has(cells, cell) and cell not in nearer:
                nearer[cell] = reached[place]
                reached.append(cell)
        place = place + 1
    return nearer


def way_between(floor, cells, one, other):
    if not has(cells, other):
        return None
    nearer = steps_to(floor, cells, other)
    if one not in nearer:
        return None
    way = [one]
    while way[-1] != other:
        way.append(nearer[way[-1]])
    return way


def is_below(floor, cell, axis, place):
    if axis == "x":
        return column_of(floor, cell) < place
    return row_of(floor, cell) < place


# The place is only compared: it may have too many figures to shift by it.
def halves(floor, cells, axis, place):
    first = 0
    for cell in listed(cells):
        if is_below(floor, cell, axis, place):
            first = first | (1 << cell)
    return (first, cells & ~first)


def parts(floor, cells, axis, place):
    both = halves(floor, cells, axis, place)
    return sorted(pieces(floor, both[0]) + pieces(floor, both[1]), key=lowest)


def seam(floor, one, other):
    found = []
    for cell in listed(one):
        for near in beside(floor, cell):
            if has(other, near):
                found.append((cell, near))
    return found
