"""Grow: a tree that grows from a root, each machine counting the part of it that it heads."""

from calmring.leasts import FarRule
from calmring.powers import power
from calmring.rules import Rule


class GrowRule(Rule):
    def __init__(self, net, root):
        self.far_rule = FarRule(net, root)
        self.net = net
        self.root = root
        Rule.__init__(self, net.size, (net.size + 1) * (net.size + 1), True)

    def parts(self, cells):
        return [(cell // (self.size + 1), cell % (self.size + 1)) for cell in cells]

    def elders(self, cells):
        fars = self.fars(cells)
        return [self.elder(fars, at) for at in range(self.size)]

    def due(self, cells, at):
        fars = self.fars(cells)
        due_far = self.far_rule.due(fars, at)
        count = self.counts(cells)[at]
        if due_far == fars[at]:
            count = self.due_count(cells, at)
        return due_far * (self.size + 1) + count

    def measure(self, cells):
        fars = self.fars(cells)
        counts = self.counts(cells)
        wrong = [at for at in range(self.size) if counts[at] != self.due_count(cells, at)]
        weights = [power(2, rank_by_far(fars, at)) for at in wrong]
        # The far parts weigh more than all counts together, as a new far may spoil any count.
        return self.far_rule.measure(fars) * power(2, self.size) + sum(weights)

    def most(self):
        return (self.far_rule.most() + 1) * power(2, self.size) - 1

    def fars(self, cells):
        return [part[0] for part in self.parts(cells)]

    def counts(self, cells):
        return [part[1] for part in self.parts(cells)]

    def elder(self, fars, at):
        if at == self.root:
            return None
        nearer = [other for other in self.net.beside(at) if fars[other] == fars[at] - 1]
        return min(nearer, default=None)

    def due_count(self, cells, at):
        kids = [count for count, elder in zip(self.counts(cells), self.elders(cells)) if elder == at]
        return min(self.size, 1 + sum(kids))


def rank_by_far(fars, at):
    lower = [other for other in range(len(fars)) if (fars[other], other) < (fars[at], at)]
    return len(lower)
