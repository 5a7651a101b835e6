"""Papers on plots and their burdens: grants, cuts, joins, lifts, waives."""

from landroll.cells import listed, size_of
from landroll.errors import Falls, TooFine
from landroll.papers import Paper, ask_plot, ask_signed, burden_on, plot_at
from landroll.pieces import halves, parts, seam
from landroll.ranks import lifted, passed, waived
from landroll.shares import mixed, owners
from landroll.strips import bare, kept_on, together


class Grant(Paper):
    def __init__(self, number, since, signed, cells, shares):
        Paper.__init__(self, number, since, signed)
        self.cells = cells
        self.shares = shares

    def reads(self):
        return listed(self.cells)

    def row(self):
        return ("grant", self.number, self.since, self.signed, self.cells, self.shares)

    def done(self, floor, plots, told=None):
        for cell in self.reads():
            if plot_at(plots, cell) is not None:
                raise Falls("one of the cells lies in a plot", "taken", "")
        made = (self.cells, self.shares, bare(self.cells), self.number)
        return ((), (made,), ())


class Cut(Paper):
    def __init__(self, number, since, signed, at, axis, place):
        Paper.__init__(self, number, since, signed)
        self.at = at
        self.axis = axis
        self.place = place

    def reads(self):
        return [self.at]

    def row(self):
        return ("cut", self.number, self.since, self.signed, self.at, self.axis, self.place)

    def part_of(self, plot, cells):
        return (cells, plot[1], kept_on(plot[2], cells), self.number)

    def done(self, floor, plots, told=None):
        plot = ask_plot(plots, self.at)
        ask_signed(self, owners(plot[1]))
        if 0 in halves(floor, plot[0], self.axis, self.place):
            raise Falls("the line doesn't go through the plot", "line", "")
        made = [self.part_of(plot, cells) for cells in parts(floor, plot[0], self.axis, self.place)]
        return ((plot,), tuple(made), ())


def mixed_of(one, two):
    try:
        return mixed(one[1], size_of(one[0]), two[1], size_of(two[0]))
    except TooFine:
        raise Falls("the mixed shares are too fine", "fine", "")


class Join(Paper):
    def __init__(self, number, since, signed, at, other):
        Paper.__init__(self, number, since, signed)
        self.at = at
        self.other = other

    def reads(self):
        return [self.at, self.other]

    def row(self):
        return ("join", self.number, self.since, self.signed, self.at, self.other)

    def done(self, floor, plots, told=None):
        one = ask_plot(plots, self.at)
        two = ask_plot(plots, self.other)
        if one == two:
            raise Falls("both cells lie in one plot", "one", "")
        ask_signed(self, sorted(owners(one[1]) + owners(two[1])))
        if seam(floor, one[0], two[0]) == []:
            raise Falls("the two plots have no side in common", "apart", "")
        made = (one[0] | two[0], mixed_of(one, two), together(one[2], two[2]), self.number)
        return ((one, two), (made,), ())


class Lift(Paper):
    def __init__(self, number, since, signed, at, burden):
        Paper.__init__(self, number, since, signed)
        self.at = at
        self.burden = burden

    def reads(self):
        return [self.at]

    def row(self):
        return ("lift", self.number, self.since, self.signed, self.at, self.burden)

    def done(self, floor, plots, told=None):
        plot = ask_plot(plots, self.at)
        found = burden_on(plot, self.burden)
        if found is None:
            raise Falls("no such burden lies on the plot", "burden", "")
        ask_signed(self, [found[2]])
        made = (plot[0], plot[1], lifted(plot[2], self.burden), self.number)
        return ((plot,), (made,), ())


class Waive(Paper):
    def __init__(self, number, since, signed, at, burden, ahead):
        Paper.__init__(self, number, since, signed)
        self.at = at
        self.burden = burden
        self.ahead = ahead

    def reads(self):
        return [self.at]

    def row(self):
        return ("waive", self.number, self.since, self.signed, self.at, self.burden, self.ahead)

    def done(self, floor, plots, told=None):
        plot = ask_plot(plots, self.at)
        if burden_on(plot, self.burden) is None or burden_on(plot, self.ahead) is None:
            raise Falls("one of the two burdens doesn't lie on the plot", "burden", "")
        passing = passed(plot[2], self.burden, self.ahead)
        if passing == ():
            raise Falls("the burden stands nowhere ahead of the other one", "rank", "")
        ask_signed(self, [burden[2] for burden in passing])
        made = (plot[0], plot[1], waived(plot[2], self.burden, self.ahead), self.number)
        return ((plot,), (made,), ())
