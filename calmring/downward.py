"""Rules that hang downward: what a machine ought to hold hangs on machines of greater rank alone."""

from calmring.errors import BadRule
from calmring.powers import power
from calmring.rules import Rule

MOST_PARENTS = 9


class DownRule(Rule):
    def __init__(self, size, span):
        Rule.__init__(self, size, span, False)

    def hangs_on(self, at):
        return []

    def rank(self, at):
        return 0

    def measure(self, cells):
        return sum([power(2, self.rank(at)) for at in self.movers(cells)])

    def most(self):
        return power(2, self.size) - 1

    def reach(self, spoiled):
        reached = [at in spoiled for at in range(self.size)]
        # A chain of machines, each hanging on the one ahead, is no longer than the size.
        for step in range(self.size):
            reached = [reached[at] or self.hangs_on_some(at, reached) for at in range(self.size)]
        return [at for at in range(self.size) if reached[at]]

    def hangs_on_some(self, at, reached):
        return any([reached[other] for other in self.hangs_on(at)])


class PaintRule(DownRule):
    def __init__(self, net):
        self.net = net
        DownRule.__init__(self, net.size, net.size)

    def hangs_on(self, at):
        return [other for other in self.net.beside(at) if other < at]

    def rank(self, at):
        return self.size - 1 - at

    def due(self, cells, at):
        taken = [cells[other] for other in self.hangs_on(at)]
        colour = 0
        while colour in taken:
            colour = colour + 1
        return colour


class CountRule(DownRule):
    def __init__(self, parents):
        refuse_parents(parents)
        # A tuple, so that the list handed in can't reach into the rule.
        self.parents = tuple(parents)
        DownRule.__init__(self, len(parents) + 1, len(parents) + 2)

    def hangs_on(self, at):
        return [kid for kid, parent in enumerate(self.parents, start=1) if parent == at]

    def rank(self, at):
        return at

    def due(self, cells, at):
        return min(self.size, 1 + sum([cells[kid] for kid in self.hangs_on(at)]))


def refuse_parents(parents):
    if len(parents) > MOST_PARENTS:
        raise BadRule("there are more than nine parents")
    for kid, parent in enumerate(parents, start=1):
        if parent < 0 or parent >= kid:
            raise BadRule("a parent is no machine of a lower number than its kid")
