"""Strips: the burdens of some ground, told as cells and their column, in just one way for each ground."""

from landroll.cells import has, lowest


def lowest_of(strip):
    return lowest(strip[0])


def strips_of(pairs):
    grounds = {}
    for pair in pairs:
        if pair[0] != 0:
            grounds[pair[1]] = grounds.get(pair[1], 0) | pair[0]
    return tuple(sorted([(grounds[column], column) for column in grounds], key=lowest_of))


def bare(cells):
    return strips_of([(cells, ())])


def column_at(strips, cell):
    for strip in strips:
        if has(strip[0], cell):
            return strip[1]
    return None


def kept_on(strips, cells):
    return strips_of([(strip[0] & cells, strip[1]) for strip in strips])


def together(one, other):
    return strips_of(list(one) + list(other))


# A burden stands in many columns, and its number is enough to know it again.
def burdens_in(columns):
    found = {}
    for column in columns:
        for burden in column:
            found[burden[0]] = burden
    return tuple([found[number] for number in sorted(found)])


def burdens_on(strips):
    return burdens_in([strip[1] for strip in strips])


def deepest(strips):
    return max([len(strip[1]) for strip in strips], default=0)
