"""Ranks: how burdens come into the columns of strips, go out of them, and pass one another."""

from landroll.strips import burdens_in, strips_of

DEEPEST = 12


def place_of(column, number):
    for place, burden in enumerate(column):
        if burden[0] == number:
            return place
    return None


# Nothing told (None) is another thing than no numbers told: the one is the end, the other the beginning.
def place_behind(column, told):
    if told is None:
        return len(column)
    found = 0
    for place, burden in enumerate(column):
        if burden[0] in told:
            found = place + 1
    return found


def laid_in(column, burden, told):
    place = place_behind(column, told)
    return column[:place] + (burden,) + column[place:]


def laid(strips, ground, burden, told=None):
    pairs = []
    for strip in strips:
        pairs.append((strip[0] & ground, laid_in(strip[1], burden, told)))
        pairs.append((strip[0] & ~ground, strip[1]))
    return strips_of(pairs)


def overtaken(strips, ground, told):
    columns = [strip[1] for strip in strips if strip[0] & ground != 0]
    return burdens_in([column[place_behind(column, told):] for column in columns])


def lifted_from(column, number):
    return tuple([burden for burden in column if burden[0] != number])


def lifted(strips, number):
    return strips_of([(strip[0], lifted_from(strip[1], number)) for strip in strips])


def filled_in(column, note, burden):
    place = place_of(column, note)
    if place is None:
        return column + (burden,)
    return column[:place] + (burden,) + column[place + 1:]


def filled(strips, ground, note, burden):
    pairs = []
    for strip in strips:
        pairs.append((strip[0] & ground, filled_in(strip[1], note, burden)))
        pairs.append((strip[0] & ~ground, lifted_from(strip[1], note)))
    return strips_of(pairs)


# Where the one ahead stands ahead already, the stretch between the two places is empty by itself.
def passed_in(column, number, ahead):
    first = place_of(column, number)
    moved = place_of(column, ahead)
    if first is None or moved is None:
        return ()
    return column[first:moved]


def waived_in(column, number, ahead):
    passing = passed_in(column, number, ahead)
    if passing == ():
        return column
    first = place_of(column, number)
    moved = place_of(column, ahead)
    return column[:first] + (column[moved],) + passing + column[moved + 1:]


def waived(strips, number, ahead):
    return strips_of([(strip[0], waived_in(strip[1], number, ahead)) for strip in strips])


def passed(strips, number, ahead):
    return burdens_in([passed_in(strip[1], number, ahead) for strip in strips])
