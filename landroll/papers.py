"""Plots and what all papers have in common: whom they want to sign, what they meet, what they do."""

from landroll.cells import every, has
from landroll.errors import Falls
from landroll.strips import burdens_on, lowest_of


def plot_at(plots, cell):
    for plot in plots:
        if has(plot[0], cell):
            return plot
    return None


# A plot begins with its cells as a strip does, so both are sorted by the same key.
def replaced(plots, gone, made):
    kept = [plot for plot in plots if plot not in gone]
    return sorted(kept + list(made), key=lowest_of)


def waste_of(floor, plots):
    waste = every(floor)
    for plot in plots:
        waste = waste & ~plot[0]
    return waste


def burden_on(plot, number):
    for burden in burdens_on(plot[2]):
        if burden[0] == number:
            return burden
    return None


# Stands for no paper of the seven kinds: what they don't have in common falls here.
class Paper:
    def __init__(self, number, since, signed):
        self.number = number
        self.since = since
        self.signed = signed

    def key(self):
        return (self.since, self.number)

    def wanting(self, names):
        for name in names:
            if name not in self.signed:
                return name
        return None

    def reads(self):
        return []

    def row(self):
        return ("paper", self.number, self.since, self.signed)

    def done(self, floor, plots, told=None):
        raise Falls("a paper of no kind does nothing", "paper", "")


def ask_plot(plots, cell):
    plot = plot_at(plots, cell)
    if plot is None:
        raise Falls("no plot lies at the cell", "waste", "")
    return plot


def ask_signed(paper, names):
    who = paper.wanting(names)
    if who is not None:
        raise Falls("a name that is wanted isn't among the signed", "sign", who)
