"""The outlines of cells: their sides, the rings that these make, and what lies inside rings."""

from landroll.cells import column_of, every, listed, row_of


# Against the clock, so that the cell lies at the left hand of who goes along.
def sides_round(floor, cell):
    left = column_of(floor, cell)
    low = row_of(floor, cell)
    corners = [(left, low), (left + 1, low), (left + 1, low + 1), (left, low + 1)]
    return [(corners[place - 1], corners[place]) for place in range(4)]


# Where a cell of the set lies beyond a side, that cell has the same side the other way round.
def sides(floor, cells):
    known = {}
    for cell in listed(cells):
        for side in sides_round(floor, cell):
            known[side] = True
    return sorted([side for side in known if (side[1], side[0]) not in known])


def step_of(side):
    return (side[1][0] - side[0][0], side[1][1] - side[0][1])


# Left is asked first: where two sides begin at the point, the way goes on at the left hand.
def side_behind(known, side):
    x = side[1][0]
    y = side[1][1]
    over = step_of(side)[0]
    up = step_of(side)[1]
    to_left = ((x, y), (x - up, y + over))
    straight = ((x, y), (x + over, y + up))
    to_right = ((x, y), (x + up, y - over))
    if to_left in known:
        return to_left
    if straight in known:
        return straight
    return to_right


def round_from(known, first):
    found = [first]
    side = side_behind(known, first)
    while side != first:
        found.append(side)
        side = side_behind(known, side)
    return found


def corners_of(walk):
    return [side[0] for place, side in enumerate(walk) if step_of(side) != step_of(walk[place - 1])]


# The sides come sorted, so the first side left of a ring begins at the ring's least corner.
def rings(floor, cells):
    some = sides(floor, cells)
    known = dict([(side, True) for side in some])
    walked = {}
    found = []
    for first in some:
        if first not in walked:
            walk = round_from(known, first)
            found.append(corners_of(walk))
            for side in walk:
                walked[side] = True
    return sorted(found)


def twice_area(ring):
    area = 0
    for place, point in enumerate(ring):
        ahead = ring[place - 1]
        area = area + ahead[0] * point[1] - point[0] * ahead[1]
    return area


# A side is told by its lower point, since the row of that is the row of the cells that it stands beside.
def uprights(ring):
    found = []
    for place, point in enumerate(ring):
        ahead = ring[place - 1]
        if ahead[0] == point[0]:
            for row in range(min(ahead[1], point[1]), max(ahead[1], point[1])):
                found.append((point[0], row))
    return found


def cells_behind(floor, upright):
    found = 0
    for cell in listed(every(floor)):
        if row_of(floor, cell) == upright[1] and column_of(floor, cell) >= upright[0]:
            found = found | (1 << cell)
    return found


# A cell that is passed over an even number of times falls out again.
def inside(floor, some):
    cells = 0
    for ring in some:
        for upright in uprights(ring):
            cells = cells ^ cells_behind(floor, upright)
    return cells
