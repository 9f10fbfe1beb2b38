"""Least: each machine ought to hold the least of its start and what its neighbours offer."""

from calmring.errors import BadRule
from calmring.powers import power
from calmring.rules import Rule

GREATEST_PART = 10
GREATEST_NAME = 9
LEAD_BLOCKS = 10


class LeastRule(Rule):
    def __init__(self, net, starts, stretch, blocks):
        refuse_part(stretch)
        refuse_part(blocks)
        self.top = stretch * blocks
        refuse_starts(net, starts, self.top)
        self.net = net
        # A tuple, so that the list handed in can't reach into the rule.
        self.starts = tuple(starts)
        self.stretch = stretch
        Rule.__init__(self, net.size, self.top + 1, True)

    def due(self, cells, at):
        near = [cells[other] for other in self.net.beside(at)]
        offers = [cell + 1 for cell in near if self.has_offer(cell)]
        if self.starts[at] is not None:
            offers.append(self.starts[at])
        return min(offers + [self.top])

    def has_offer(self, cell):
        return cell != self.top and (cell + 1) % self.stretch != 0

    def measure(self, cells):
        dues = [self.due(cells, at) for at in range(self.size)]
        base = self.size + 1
        number = 0
        for mark in range(self.top):
            rising = [cell for cell, due in zip(cells, dues) if cell == mark and due > mark]
            falling = [cell for cell, due in zip(cells, dues) if cell > mark and due == mark]
            number = (number * base + len(rising)) * base + len(falling)
        return number

    def most(self):
        return power(self.size + 1, 2 * self.top) - 1


class FarRule(LeastRule):
    def __init__(self, net, root):
        if root < 0 or root >= net.size:
            raise BadRule("the root is no machine")
        starts = [0 if at == root else None for at in range(net.size)]
        LeastRule.__init__(self, net, starts, net.size, 1)


class LeadRule(LeastRule):
    def __init__(self, net, names):
        refuse_names(net, names)
        starts = [(GREATEST_NAME - name) * net.size for name in names]
        LeastRule.__init__(self, net, starts, net.size, LEAD_BLOCKS)

    def heads(self, cells):
        return [self.head(cell) for cell in cells]

    def head(self, cell):
        if cell == self.top:
            return None
        return (GREATEST_NAME - cell // self.size, cell % self.size)


def refuse_part(part):
    if part < 1 or part > GREATEST_PART:
        raise BadRule("the stretch or the number of blocks is out of bounds")


def refuse_starts(net, starts, top):
    if len(starts) != net.size:
        raise BadRule("there are not as many starts as machines")
    for start in starts:
        if start is not None and (start < 0 or start >= top):
            raise BadRule("a start is out of bounds")


def refuse_names(net, names):
    if len(names) != net.size:
        raise BadRule("there are not as many names as machines")
    if len(set(names)) != len(names):
        raise BadRule("two machines have the same name")
    for name in names:
        if name < 0 or name > GREATEST_NAME:
            raise BadRule("a name is out of bounds")
