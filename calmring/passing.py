"""Pass: a ring that comes to rest with just one machine that has the right to pass."""

from calmring.errors import BadRule
from calmring.rules import Rule

LEAST_RING = 2
GREATEST_RING = 20


class PassRule(Rule):
    def __init__(self, size, span):
        if size < LEAST_RING or size > GREATEST_RING:
            raise BadRule("the number of machines is out of bounds")
        if span < size:
            raise BadRule("the span is less than the size")
        Rule.__init__(self, size, span, False)

    def due(self, cells, at):
        if at != 0:
            return cells[at - 1]
        if cells[0] == cells[self.size - 1]:
            return (cells[0] + 1) % self.span
        return cells[0]

    def calm(self, cells):
        return len(self.movers(cells)) == 1

    def measure(self, cells):
        # Each deed of a machine but 0 hands a mover on towards the end of the ring, where it weighs less.
        weights = [self.size - at for at in self.movers(cells) if at != 0]
        return self.size * steps_to_fresh(cells, self.span) + sum(weights)

    def most(self):
        return 3 * self.size * (self.size - 1) // 2

    def soon(self, count):
        return min(self.most(), (count + 2) * self.size + (2 * count + 1) * (self.size - 1))


def steps_to_fresh(cells, span):
    """How often machine 0 steps on till no machine holds its cell but those it was handed on to."""
    if cells[0] not in cells[beginning(cells):]:
        return 0
    steps = 1
    # A span of at least the size leaves a cell that nobody holds, so this ends.
    while (cells[0] + steps) % span in cells[1:]:
        steps = steps + 1
    return steps


def beginning(cells):
    """The number of machines 0, 1, 2 .. that all have machine 0's cell."""
    length = 1
    while length < len(cells) and cells[length] == cells[0]:
        length = length + 1
    return length
