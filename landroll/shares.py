"""Shares: who holds which fraction of a whole, tuples (name, fraction) sorted by name."""

from landroll.errors import BadShares, TooFine, TooLittle
from landroll.fractions import ALL, NONE, fraction, lesser, minus, plus, product, quotient, sum_of, under

# This is 10 ** 60.
FINEST = 1000000000000000000000000000000000000000000000000000000000000
LETTERS = "abcdefghijklmnopqrstuvwxyz"
LONGEST_NAME = 8


def is_name(thing):
    if not isinstance(thing, str):
        return False
    return 1 <= len(thing) <= LONGEST_NAME and all([sign in LETTERS for sign in thing])


# All new shares are told through here, so that none has an owner of nought or is too fine.
def told_of(held):
    shares = tuple([(name, held[name]) for name in sorted(held) if held[name] != NONE])
    if any([pair[1][1] > FINEST for pair in shares]):
        raise TooFine("a bottom is greater than 10 ** 60")
    return shares


def raise_share(held, name, part):
    held[name] = plus(held.get(name, NONE), part)


def lower_share(held, name, part):
    held[name] = minus(held.get(name, NONE), part)


# A name is looked at ahead of its being a key: what stands there may be a thing that can't be one.
def shares_of(pairs):
    held = {}
    for pair in pairs:
        if not is_name(pair[0]):
            raise BadShares("a name is a text of 1 to 8 of the letters a to z")
        if not under(NONE, pair[1]):
            raise BadShares("a fraction of a share is above nought")
        raise_share(held, pair[0], pair[1])
    if sum_of(list(held.values())) != ALL:
        raise BadShares("all fractions together are one")
    return told_of(held)


def share_of(shares, name):
    for pair in shares:
        if pair[0] == name:
            return pair[1]
    return NONE


def owners(shares):
    return [pair[0] for pair in shares]


def hand_on(shares, giver, taker, part):
    if under(share_of(shares, giver), part):
        raise TooLittle("the giver holds less than the part")
    held = dict(shares)
    lower_share(held, giver, part)
    raise_share(held, taker, part)
    return told_of(held)


def mixed(one, many, other, more):
    held = {}
    for pair in one:
        raise_share(held, pair[0], product(fraction(many, many + more), pair[1]))
    for pair in other:
        raise_share(held, pair[0], product(fraction(more, many + more), pair[1]))
    return told_of(held)


# Those who hold nothing together can't be asked in proportion to it.
def losses_by(others, lacking):
    together = sum_of([pair[1] for pair in others])
    if together == NONE:
        return ()
    rate = quotient(lesser(lacking, together), together)
    losses = [(pair[0], product(pair[1], rate)) for pair in others]
    return tuple([loss for loss in losses if loss[1] != NONE])


def pressed(shares, giver, taker, part):
    held = dict(shares)
    if giver == taker:
        return (told_of(held), ())
    given = lesser(part, share_of(shares, giver))
    others = [pair for pair in shares if pair[0] != giver and pair[0] != taker]
    losses = losses_by(others, minus(part, given))
    lower_share(held, giver, given)
    for loss in losses:
        lower_share(held, loss[0], loss[1])
    raise_share(held, taker, plus(given, sum_of([loss[1] for loss in losses])))
    return (told_of(held), losses)
