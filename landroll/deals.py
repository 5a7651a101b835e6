"""Papers that may be told something: gives and lays; and the paper of a row, of whichever kind."""

from landroll.deeds import Cut, Grant, Join, Lift, Waive
from landroll.errors import Falls, TooFine, TooLittle
from landroll.papers import Paper, ask_plot, ask_signed, burden_on
from landroll.ranks import DEEPEST, filled, laid, overtaken
from landroll.shares import hand_on, owners, pressed
from landroll.strips import burdens_on, deepest


def ask_ground(plots, cell, ground):
    plot = ask_plot(plots, cell)
    if ground != 0 and ground != plot[0]:
        raise Falls("the ground isn't the plot's cells", "other", "")
    return plot


class Give(Paper):
    def __init__(self, number, since, signed, at, giver, taker, part, ground=0, trust=None):
        Paper.__init__(self, number, since, signed)
        self.at = at
        self.giver = giver
        self.taker = taker
        self.part = part
        self.ground = ground
        self.trust = trust

    def reads(self):
        return [self.at]

    def row(self):
        first = ("give", self.number, self.since, self.signed, self.at)
        return first + (self.giver, self.taker, self.part, self.ground, self.trust)

    # Who has a right to buy, or a note that still runs, is asked; but nobody is asked to agree to what they take.
    def has_to_agree(self, burden):
        binds = burden[1] == "buy" or (burden[1] == "note" and burden[4] >= self.since)
        return binds and burden[2] != self.taker

    def agreeing(self, plot):
        return [burden for burden in burdens_on(plot[2]) if self.has_to_agree(burden)]

    def handed(self, plot):
        try:
            return hand_on(plot[1], self.giver, self.taker, self.part)
        except TooLittle:
            raise Falls("the giver holds less than the part", "share", "")
        except TooFine:
            raise Falls("what is handed on is too fine", "fine", "")

    def pressing(self, plot):
        try:
            return pressed(plot[1], self.giver, self.taker, self.part)
        except TooFine:
            raise Falls("what is pressed is too fine", "fine", "")

    def done_untold(self, plot):
        ask_signed(self, [self.giver] + [burden[2] for burden in self.agreeing(plot)])
        made = (plot[0], self.handed(plot), plot[2], self.number)
        return ((plot,), (made,), ())

    def done_pressed(self, plot):
        ask_signed(self, [self.giver])
        both = self.pressing(plot)
        losses = [("share", loss[0], loss[1]) for loss in both[1]]
        for burden in self.agreeing(plot):
            if burden[2] not in self.signed:
                losses.append(("right", burden[2], burden[0]))
        made = (plot[0], both[0], plot[2], self.number)
        return ((plot,), (made,), tuple(losses))

    def done(self, floor, plots, told=None):
        plot = ask_ground(plots, self.at, self.ground)
        if told is None:
            return self.done_untold(plot)
        return self.done_pressed(plot)


class Lay(Paper):
    def __init__(self, number, since, signed, at, kind, holder, amount, until=0, over=0, note=0, ground=0, trust=None):
        Paper.__init__(self, number, since, signed)
        self.at = at
        self.kind = kind
        self.holder = holder
        self.amount = amount
        self.until = until
        self.over = over
        self.note = note
        self.ground = ground
        self.trust = trust

    def reads(self):
        return [self.at]

    def row(self):
        first = ("lay", self.number, self.since, self.signed, self.at)
        what = (self.kind, self.holder, self.amount, self.until, self.over, self.note)
        return first + what + (self.ground, self.trust)

    def laid_burden(self):
        return (self.number, self.kind, self.holder, self.amount, self.until)

    def cells_within(self, plot):
        if self.kind == "way":
            return self.over
        return plot[0]

    def ask_note(self, plot):
        note = burden_on(plot, self.note)
        if note is None or note[1] != "note" or note[2] != self.holder or note[4] < self.since:
            raise Falls("the plot bears no note of this number that the holder can still fill", "note", "")

    def plot_with(self, plot, strips):
        if deepest(strips) > DEEPEST:
            raise Falls("a column would have more than 12 burdens", "many", "")
        return (plot[0], plot[1], strips, self.number)

    def strips_untold(self, plot):
        if self.note == 0:
            return laid(plot[2], self.cells_within(plot), self.laid_burden())
        return filled(plot[2], self.cells_within(plot), self.note, self.laid_burden())

    def done_untold(self, plot):
        if self.note != 0:
            self.ask_note(plot)
        ask_signed(self, owners(plot[1]))
        made = self.plot_with(plot, self.strips_untold(plot))
        return ((plot,), (made,), ())

    def done_ahead(self, plot, told):
        cells = self.cells_within(plot)
        made = self.plot_with(plot, laid(plot[2], cells, self.laid_burden(), told))
        losses = [("ground", owner, self.number) for owner in owners(plot[1]) if owner not in self.signed]
        for burden in overtaken(plot[2], cells, told):
            losses.append(("rank", burden[2], burden[0]))
        return ((plot,), (made,), tuple(losses))

    def done(self, floor, plots, told=None):
        plot = ask_ground(plots, self.at, self.ground)
        if self.over & ~plot[0] != 0:
            raise Falls("a cell of the way doesn't lie in the plot", "over", "")
        if told is None or self.note != 0:
            return self.done_untold(plot)
        return self.done_ahead(plot, told)


def paper_of(row):
    kind = row[0]
    if kind == "grant":
        return Grant(row[1], row[2], row[3], row[4], row[5])
    if kind == "cut":
        return Cut(row[1], row[2], row[3], row[4], row[5], row[6])
    if kind == "join":
        return Join(row[1], row[2], row[3], row[4], row[5])
    if kind == "give":
        return Give(row[1], row[2], row[3], row[4], row[5], row[6], row[7], row[8], row[9])
    if kind == "lay":
        return Lay(row[1], row[2], row[3], row[4], row[5], row[6], row[7], row[8], row[9], row[10], row[11], row[12])
    if kind == "lift":
        return Lift(row[1], row[2], row[3], row[4], row[5])
    return Waive(row[1], row[2], row[3], row[4], row[5], row[6])
